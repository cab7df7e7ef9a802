/- Layer 2 (ring): the state of a round of RingTablePlays: both tables, the boxes, the marks; a round's region under a state that is held behind all but the last. -/
import Derived.Test.YtechkkidebkadaaRtQ
namespace Go.Proofs.Ytechkkidebkadaa
open Go.RowKit Go.Shelf
set_option linter.unusedVariables false

theorem pre_snoc {α : Type} {p e : List α} {x : α} (h : p <+: e) (hx : e[p.length]? = some x) : (p ++ [x]) <+: e := by
  obtain ⟨r, rfl⟩ := h
  rw [List.getElem?_append_right (Nat.le_refl _), Nat.sub_self] at hx
  cases r with
  | nil => simp at hx
  | cons y r => simp at hx; subst hx; exact ⟨r, by simp⟩
theorem pre_last {α : Type} {p e : List α} {x y : α} (h : (p ++ [x]) <+: e) (hy : e[p.length]? = some y) : x = y := by
  obtain ⟨r, rfl⟩ := h
  rw [List.append_assoc, List.getElem?_append_right (Nat.le_refl _), Nat.sub_self] at hy
  simpa using hy
theorem takeU {P : Program} {ops : Array Oper} {Q : Exit → Act → World → Prop} {S : World → Prop} {z fuel : Nat} {listed : Array Bool} {a : Act} {w : World} (i : Nat) (d : Option Tmp) {oi : Oper} (hi : ops[i]? = some oi) (hd : oi.dst = d)
    (hs : Region.noSelect ops = true) (hf : Region.free .any ops listed i = true) (hr : (Region.ready .any ops listed).contains i = true) (hw : waitsFor .any ops z i = true) (hu : Region.wanted oi (yielded ops a.tmps) = false) (hS : S w)
    (h : wpAnyZ P .any ops (Only Q) S z fuel (listed.setIfInBounds i true) (a.put d undef) w) : wpAnyZ P .any ops (Only Q) S z (fuel + 1) listed a w :=
  wpAnyZ_first hi (Region.noSelect_spec hs) (fun _ _ _ h => h) hw fuel listed a w (Region.free_spec hi hf) (by simpa using hr) (Or.inr ⟨hu, rfl⟩) hS (by rw [hd]; exact h)
theorem round_Z {P : Program} {id r n : Nat} {Q : Exit → Act → World → Prop} {a : Act} {w : World} {l : List Oper} (S : World → Prop) (z k : Nat) (hk : l.toArray.size = k) (hm : P.follows .mixedOrders = true) (hd : noDefer l.toArray = true) (hS : S w.drew)
    (h : S w.drew → wpAnyZ P .any l.toArray (Only Q) S z k (Array.replicate k false) a w.drew) : (Code.region id l.toArray true).wpIn (Fence.wide.inRound r) n P Q a w :=
  wpIn_mono (wpIn_region_any hm (any_round (fun ⟨a, w, h⟩ => h) (noDefer_spec hd) _ _ _ _ (wpAny_of_Z _ _ _ _ (by subst hk; exact h hS)))) Only.imp
/-- A round's state. -/
structure Sta (B bok bs bw : Nat) (Ds : List Nat) (w W : World) (t rb m : Nat) (mo q id x : Int) (es fs : List (Nat × Value)) (L K : Nat) (ok : Bool) : Prop where
  tt : TT B (bok :: bs :: bw :: Ds) w W t rb m mo es fs L K
  vw : Vr W bw 53 (.pointer (some ⟨rb, 0, none⟩))
  vs : W.heap[bs]? = some (.cells #[.int .i64 q, .int .i64 id, .int .i64 x] 58 (0, 0))
  vo : Vr W bok 4 (.bool ok)
  ms : Marks W Ds
section
variable {B bok bs bw : Nat} {Ds : List Nat} {w W W' : World} {t rb m : Nat} {mo q id x : Int} {es fs es' fs' : List (Nat × Value)} {L K L' K' : Nat} {ok : Bool}
theorem Sta.cells (h : Sta B bok bs bw Ds w W t rb m mo q id x es fs L K ok) : W.cell? ⟨bw, 0, none⟩ = some (.pointer (some ⟨rb, 0, none⟩)) ∧ W.cell? ⟨bs, 0, none⟩ = some (.int .i64 q) ∧ W.cell? ⟨bs, 1, none⟩ = some (.int .i64 id) ∧ W.cell? ⟨bs, 2, none⟩ = some (.int .i64 x) ∧ W.cell? ⟨bok, 0, none⟩ = some (.bool ok) ∧ W.frozen? ⟨bok, 0, none⟩ = false := by
  refine ⟨h.vw.cell, ?_, ?_, ?_, h.vo.cell, h.vo.thaw⟩ <;> rw [cell_of_row W bs _ _ _ (0, 0) h.vs] <;> rfl
theorem Sta.step (h : Sta B bok bs bw Ds w W t rb m mo q id x es fs L K ok) (hT : TT B (bok :: bs :: bw :: Ds) w W' t rb m mo es' fs' L' K') (hk : Kx (bok :: bs :: bw :: Ds) W W') : Sta B bok bs bw Ds w W' t rb m mo q id x es' fs' L' K' ok :=
  ⟨hT, h.vw.kx hk (by simp), (hk bs (by simp)).trans h.vs, h.vo.kx hk (by simp), h.ms.kx hk (fun D hD => by simp [hD])⟩
theorem Sta.quiet (h : Sta B bok bs bw Ds w W t rb m mo q id x es fs L K ok) (hb : Below W.heap.size W W') : Sta B bok bs bw Ds w W' t rb m mo q id x es fs L K ok :=
  h.step (h.tt.quiet hb).1 (h.tt.quiet hb).2
theorem Sta.setOk (h : Sta B bok bs bw Ds w W t rb m mo q id x es fs L K ok) (hB : B ≤ bok) (b : Bool) : Sta B bok bs bw Ds w (W.setCell ⟨bok, 0, none⟩ (.bool b)) t rb m mo q id x es fs L K b := by
  have n1 : bw ≠ bok := fun e => by have := h.vw.obj; rw [e, h.vo.obj] at this; cases this
  have n2 : bs ≠ bok := fun e => by have := h.vs; rw [e, h.vo.obj] at this; cases this
  have n3 : ∀ D ∈ Ds, D ≠ bok := fun D hD e => by have := h.ms D hD; rw [e, h.vo.obj] at this; cases this
  refine ⟨h.tt.set (by simp) hB _, h.vw.other n1 _, ?_, h.vo.set _, fun D hD => ?_⟩
  · rw [Below.heap_setCell _ _ _ _ n2]; exact h.vs
  · rw [Below.heap_setCell _ _ _ _ (n3 D hD)]; exact h.ms D hD
theorem Sta.t_call (h : Sta B bok bs bw Ds w W t rb m mo q id x es fs L K ok) {f : Nat} {args : Array Value} {R : Ending → Prop} (hN : AllN es')
    (hc : ∀ S0, TableAt 88 90 2 W S0 t m es L → Calls Try.prog f args W fun e w' => R e ∧ ∃ S', TableAt 88 90 2 w' S' t m es' L' ∧ Fr S0 W w' ∧ Sub W S0 S') :
    Calls Try.prog f args W fun e W' => R e ∧ Sta B bok bs bw Ds w W' t rb m mo q id x es' fs L' K ok :=
  (h.tt.t_call hN hc).mono fun e W' ⟨hR, hT, hk⟩ => ⟨hR, h.step hT hk⟩
theorem Sta.r_call (h : Sta B bok bs bw Ds w W t rb m mo q id x es fs L K ok) {f : Nat} {args : Array Value} {R : Ending → Prop} (hN : AllN fs')
    (hc : ∀ S1 v, RefT W S1 rb mo K fs v → Calls Try.prog f args W fun e w' => R e ∧ ∃ S' v', RefT w' S' rb mo K' fs' v' ∧ Fr S1 W w' ∧ Sub W S1 S') :
    Calls Try.prog f args W fun e W' => R e ∧ Sta B bok bs bw Ds w W' t rb m mo q id x es fs' L K' ok :=
  (h.tt.r_call hN hc).mono fun e W' ⟨hR, hT, hk⟩ => ⟨hR, h.step hT hk⟩
theorem Sta.add_full (h : Sta B bok bs bw Ds w W t rb m mo q id x es fs L K ok) (hf : es.length = m) (y : Int) : Calls Try.prog 23 #[.pointer (some ⟨t, 0, none⟩), .int .i64 y] W fun e W' => e = .returned (.tuple #[.int .i64 0, .int .i64 5]) ∧ Sta B bok bs bw Ds w W' t rb m mo q id x es fs L K ok := by
  obtain ⟨S0, h0, _⟩ := h.tt.tab
  exact (addN_full S0 t m L es y W h0 hf).mono fun e W' ⟨he, hb⟩ => ⟨he, h.quiet hb⟩
theorem Sta.radd_full (h : Sta B bok bs bw Ds w W t rb m mo q id x es fs L K ok) (hm : max mo 1 = (m : Int)) (hf : m ≤ fs.length) (y : Int) : Calls Try.prog 26 #[.pointer (some ⟨rb, 0, none⟩), .int .i64 y] W fun e W' => e = .returned (.tuple #[.int .i64 0, .int .i64 5]) ∧ Sta B bok bs bw Ds w W' t rb m mo q id x es fs L K ok := by
  obtain ⟨S1, v, h1, _⟩ := h.tt.ref
  exact (refAdd_full S1 rb K mo fs v y m W h1 hm hf).mono fun e W' ⟨he, hb⟩ => ⟨he, h.quiet hb⟩
theorem Sta.add_room (h : Sta B bok bs bw Ds w W t rb m mo q id x es fs L K ok) (hf : es.length < m) (hL : L < 1000000) (y : Int) : Calls Try.prog 23 #[.pointer (some ⟨t, 0, none⟩), .int .i64 y] W fun e W' => e = .returned (.tuple #[.int .i64 (L + 1 : Nat), .int .i64 0]) ∧ Sta B bok bs bw Ds w W' t rb m mo q id x (es ++ [(L + 1, .int .i64 y)]) fs (L + 1) K ok :=
  h.t_call (h.tt.n0.append (alln_one _ _)) (fun S0 h0 => addN_room S0 t m L es y W h0 hf hL)
theorem Sta.radd_room (h : Sta B bok bs bw Ds w W t rb m mo q id x es fs L K ok) (hm : max mo 1 = (m : Int)) (hf : fs.length < m) (hm1 : m ≤ 1000) (hL : K < 1000000) (y : Int) : Calls Try.prog 26 #[.pointer (some ⟨rb, 0, none⟩), .int .i64 y] W fun e W' => e = .returned (.tuple #[.int .i64 (K + 1 : Nat), .int .i64 0]) ∧ Sta B bok bs bw Ds w W' t rb m mo q id x es (fs ++ [(K + 1, .int .i64 y)]) L (K + 1) ok :=
  h.r_call (h.tt.n1.append (alln_one _ _)) (fun S1 v h1 => refAdd_room S1 rb K mo fs v y m W h1 h.tt.n1 hm hf hm1 hL)
theorem Sta.get_yes (h : Sta B bok bs bw Ds w W t rb m mo q id x es fs L K ok) {k : Nat} (hk : k < es.length) (he : (es[k].1 : Int) = id) : Calls Try.prog 27 #[.pointer (some ⟨t, 0, none⟩), .int .i64 id] W fun e W' => e = .returned (.tuple #[es[k].2, .bool true]) ∧ Sta B bok bs bw Ds w W' t rb m mo q id x es fs L K ok := by
  obtain ⟨S0, h0, _⟩ := h.tt.tab
  exact (getN_yes S0 t m L es id k hk W h0 h.tt.n0 he).mono fun e W' ⟨he, hb⟩ => ⟨he, h.quiet hb⟩
theorem Sta.get_no (h : Sta B bok bs bw Ds w W t rb m mo q id x es fs L K ok) (he : ∀ k (hk : k < es.length), (es[k].1 : Int) ≠ id) : Calls Try.prog 27 #[.pointer (some ⟨t, 0, none⟩), .int .i64 id] W fun e W' => e = .returned (.tuple #[.int .i64 0, .bool false]) ∧ Sta B bok bs bw Ds w W' t rb m mo q id x es fs L K ok := by
  obtain ⟨S0, h0, _⟩ := h.tt.tab
  exact (getN_no S0 t m L es id W h0 h.tt.n0 he).mono fun e W' ⟨he, hb⟩ => ⟨he, h.quiet hb⟩
theorem AllN.set {es : List (Nat × Value)} (h : AllN es) (k n : Nat) (y : Int) : AllN (es.set k (n, .int .i64 y)) := fun j hj => by
  rw [List.getElem_set]
  split
  · exact ⟨y, rfl⟩
  · exact h j (by simpa using hj)
theorem AllN.erase {es : List (Nat × Value)} (h : AllN es) (k : Nat) : AllN (es.eraseIdx k) := h.of_mem (fun e he => List.mem_of_mem_eraseIdx he)
theorem Sta.put_yes (h : Sta B bok bs bw Ds w W t rb m mo q id x es fs L K ok) {k : Nat} (hk : k < es.length) (he : (es[k].1 : Int) = id) (y : Int) : Calls Try.prog 28 #[.pointer (some ⟨t, 0, none⟩), .int .i64 id, .int .i64 y] W fun e W' => e = .returned (.bool true) ∧ Sta B bok bs bw Ds w W' t rb m mo q id x (es.set k (es[k].1, .int .i64 y)) fs L K ok :=
  h.t_call (h.tt.n0.set _ _ _) (fun S0 h0 => (putN_yes S0 t m L es id k hk y W h0 h.tt.n0 he).mono fun e W' ⟨a, b, c⟩ => ⟨a, S0, b, c, sub_self _ _⟩)
theorem Sta.put_no (h : Sta B bok bs bw Ds w W t rb m mo q id x es fs L K ok) (he : ∀ k (hk : k < es.length), (es[k].1 : Int) ≠ id) (y : Int) : Calls Try.prog 28 #[.pointer (some ⟨t, 0, none⟩), .int .i64 id, .int .i64 y] W fun e W' => e = .returned (.bool false) ∧ Sta B bok bs bw Ds w W' t rb m mo q id x es fs L K ok := by
  obtain ⟨S0, h0, _⟩ := h.tt.tab
  exact (putN_no S0 t m L es id y W h0 h.tt.n0 he).mono fun e W' ⟨he, hb⟩ => ⟨he, h.quiet hb⟩
theorem Sta.drop_yes (h : Sta B bok bs bw Ds w W t rb m mo q id x es fs L K ok) {k : Nat} (hk : k < es.length) (he : (es[k].1 : Int) = id) : Calls Try.prog 29 #[.pointer (some ⟨t, 0, none⟩), .int .i64 id] W fun e W' => e = .returned (.bool true) ∧ Sta B bok bs bw Ds w W' t rb m mo q id x (es.eraseIdx k) fs L K ok :=
  h.t_call (h.tt.n0.erase _) (fun S0 h0 => dropN_yes S0 t m L es id k hk W h0 h.tt.n0 he)
theorem Sta.drop_no (h : Sta B bok bs bw Ds w W t rb m mo q id x es fs L K ok) (he : ∀ k (hk : k < es.length), (es[k].1 : Int) ≠ id) : Calls Try.prog 29 #[.pointer (some ⟨t, 0, none⟩), .int .i64 id] W fun e W' => e = .returned (.bool false) ∧ Sta B bok bs bw Ds w W' t rb m mo q id x es fs L K ok := by
  obtain ⟨S0, h0, _⟩ := h.tt.tab
  exact (dropN_no S0 t m L es id W h0 h.tt.n0 he).mono fun e W' ⟨he, hb⟩ => ⟨he, h.quiet hb⟩
theorem Sta.rdrop_yes (h : Sta B bok bs bw Ds w W t rb m mo q id x es fs L K ok) (hr : Rise fs) (hl : fs.length ≤ 1000) {k : Nat} (hk : k < fs.length) (he : (fs[k].1 : Int) = id) : Calls Try.prog 30 #[.pointer (some ⟨rb, 0, none⟩), .int .i64 id] W fun e W' => e = .returned (.bool true) ∧ Sta B bok bs bw Ds w W' t rb m mo q id x es (fs.eraseIdx k) L K ok :=
  h.r_call (h.tt.n1.erase _) (fun S1 v h1 => refDrop_yes S1 rb K mo fs v id k W h1 h.tt.n1 hr hk he hl)
theorem Sta.rdrop_no (h : Sta B bok bs bw Ds w W t rb m mo q id x es fs L K ok) (he : ∀ k (hk : k < fs.length), (fs[k].1 : Int) ≠ id) : Calls Try.prog 30 #[.pointer (some ⟨rb, 0, none⟩), .int .i64 id] W fun e W' => e = .returned (.bool false) ∧ Sta B bok bs bw Ds w W' t rb m mo q id x es fs L K ok := by
  obtain ⟨S1, v, h1, _⟩ := h.tt.ref
  exact (refDrop_no S1 rb K mo fs v id W h1 h.tt.n1 he).mono fun e W' ⟨he, hb⟩ => ⟨he, h.quiet hb⟩
/-- What the table's own facts are. -/
theorem Sta.facts (h : Sta B bok bs bw Ds w W t rb m mo q id x es fs L K ok) : Rise es ∧ es.length ≤ m ∧ m ≤ 1000 := by
  obtain ⟨S0, ⟨v, hb, h1, h2, h3, h4, _⟩, _⟩ := h.tt.tab
  exact ⟨h4, h3, h2⟩
/-- w.L[k].X = y. -/
theorem RefT.setX {S : Nat → Prop} {v : Value} (h : RefT W S rb mo K fs v) (hN : AllN fs) {k g cap : Nat} (hk : k < fs.length) (hv : v = .slice (some ⟨g, 0, none⟩) fs.length cap) (y : Int) : RefT (W.setCell ⟨g, k * 2 + 1, none⟩ (.int .i64 y)) S rb mo K (fs.set k (fs[k].1, .int .i64 y)) v ∧ Fr S W (W.setCell ⟨g, k * 2 + 1, none⟩ (.int .i64 y)) := by
  subst hv
  have hi := h.inr g rfl
  refine ⟨⟨?_, ?_, h.inb, h.inr, fun j hj => by have := h.lt j hj; simpa [World.setCell] using this⟩, (Fr.refl S W).setCell (p := ⟨g, k * 2 + 1, none⟩) hi.1 _⟩
  · rw [Below.heap_setCell _ _ _ _ (fun e => hi.2 e.symm)]; exact h.obj
  · obtain ⟨s, hs⟩ := hN k hk
    have e1 := flat_set (x := .int .i64 y) hN.fit hk rfl rfl (by rw [hs]; rfl)
    refine ⟨by rw [e1, List.length_set, List.length_set]; exact h.row.own.1, ?_⟩
    rcases h.row.own.2 with ⟨hn, _⟩ | ⟨g', cap', cur, hv, hb, hg, h2, h3, h4, h5⟩
    · cases hn
    · cases hv
      refine .inr ⟨g, cap, cur.setIfInBounds (k * 2 + 1) (.int .i64 y), by rw [List.length_set], hb, heap_set_same hg _, by rw [List.length_set]; exact h2, h3, by simpa using h4, ?_⟩
      rw [Array.toList_setIfInBounds, List.length_set, List.take_set, h5, e1]
theorem Sta.setX (h : Sta B bok bs bw Ds w W t rb m mo q id x es fs L K ok) {k : Nat} (hk : k < fs.length) (y : Int) :
    ∃ g cap, W.cell? ⟨rb, 2, none⟩ = some (.slice (some ⟨g, 0, none⟩) fs.length cap) ∧ fs.length ≤ cap ∧ cap ≤ maxLen ∧ (∃ s, W.cell? ⟨g, k * 2 + 1, none⟩ = some (.int .i64 s)) ∧ W.frozen? ⟨g, k * 2 + 1, none⟩ = false ∧ Sta B bok bs bw Ds w (W.setCell ⟨g, k * 2 + 1, none⟩ (.int .i64 y)) t rb m mo q id x es (fs.set k (fs[k].1, .int .i64 y)) L K ok := by
  obtain ⟨⟨S0, S1, v, h0, h1, hd, hf0, hf1⟩, hb, hle, hx, n0, n1⟩ := h.tt
  obtain ⟨g, cap, hv, hl, hm, hS, hg, hc, hz⟩ := h1.at n1 hk
  obtain ⟨g1, gf⟩ := h1.setX n1 hk hv y
  obtain ⟨s, hs⟩ := n1 k hk
  refine ⟨g, cap, by rw [← hv]; exact h1.cells.2.2, hl, hm, ⟨s, by rw [← hs]; exact (hc k hk).2⟩, hz _, ?_⟩
  refine h.step ⟨⟨S0, S1, v, h0.keep gf hd, g1, hd, hf0, hf1⟩, hb.trans (gf.below hle (fun k hk => (hf1 k hk).1)), Nat.le_trans hle gf.size, fun j hj => Nat.lt_of_lt_of_le (hx j hj) gf.size, n0, n1.set _ _ _⟩ (fun j hj => gf.block j (hx j hj) (fun e => (hf1 j e).2 hj))
/-- What w.L[k] holds. -/
theorem Sta.look (h : Sta B bok bs bw Ds w W t rb m mo q id x es fs L K ok) {k : Nat} (hk : k < fs.length) :
    ∃ g cap, W.cell? ⟨rb, 2, none⟩ = some (.slice (some ⟨g, 0, none⟩) fs.length cap) ∧ fs.length ≤ cap ∧ cap ≤ maxLen ∧ W.cell? ⟨g, k * 2, none⟩ = some (.int .i64 fs[k].1) ∧ W.cell? ⟨g, k * 2 + 1, none⟩ = some fs[k].2 := by
  obtain ⟨S1, v, h1, _⟩ := h.tt.ref
  obtain ⟨g, cap, rfl, hl, hm, _, _, hc, _⟩ := h1.at h.tt.n1 hk
  exact ⟨g, cap, h1.cells.2.2, hl, hm, (hc k hk).1, (hc k hk).2⟩
end
end Go.Proofs.Ytechkkidebkadaa
