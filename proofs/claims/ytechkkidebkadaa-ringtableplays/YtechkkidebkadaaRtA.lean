/- Layer 2's own answer (embrasureref02): Table; its row; Find (for RingTablePlays). -/
import Derived.Test.YtechkkidebkadaaRfD
import Derived.Test.YtechkkidebkadaaRtZ
import Derived.Lib.AppendZeros
import Derived.Deep.AppendLies
namespace Go.Proofs.Ytechkkidebkadaa
open Go.RowKit
set_option linter.unusedVariables false
attribute [local go_sem ↓] Go.wp_at_zero Go.wp_at_succ

/-- A row of entries of one's own. -/
structure RowE (w : World) (B : Nat) (v : Value) (es : List (Nat × Value)) : Prop where
  own : w.ownsRow B 61 2 v es.length (flat es)
theorem AllN.fit {es : List (Nat × Value)} (h : AllN es) : Fit 2 es := fun e he => by
  obtain ⟨k, hk, rfl⟩ := List.mem_iff_getElem.1 he
  obtain ⟨s, hs⟩ := h k hk
  rw [hs]; rfl
theorem AllN.one {es : List (Nat × Value)} (h : AllN es) : ∀ u ∈ flat es, u.oneCell' = true := by
  intro u hu
  obtain ⟨e, he, hu⟩ := List.mem_flatMap.1 hu
  obtain ⟨k, hk, rfl⟩ := List.mem_iff_getElem.1 he
  obtain ⟨s, hs⟩ := h k hk
  rw [hs] at hu
  simp [Value.cells] at hu
  rcases hu with rfl | rfl <;> rfl
theorem AllN.of_mem {es fs : List (Nat × Value)} (h : AllN es) (hs : ∀ e ∈ fs, e ∈ es) : AllN fs := fun k hk => by
  obtain ⟨j, hj, e⟩ := List.mem_iff_getElem.1 (hs _ (List.getElem_mem hk))
  rw [← e]; exact h j hj
theorem AllN.append {es fs : List (Nat × Value)} (h : AllN es) (k : AllN fs) : AllN (es ++ fs) := fun i hi => by
  rcases Nat.lt_or_ge i es.length with hlt | hge
  · rw [List.getElem_append_left hlt]; exact h i hlt
  · rw [List.getElem_append_right hge]; exact k _ _
theorem RowE.base {w : World} {B C : Nat} {v : Value} {es : List (Nat × Value)} (h : RowE w B v es) (hC : C ≤ B) : RowE w C v es := by
  refine ⟨h.own.1, ?_⟩
  rcases h.own.2 with hn | ⟨g, cap, cur, hv, hb, r⟩
  · exact .inl hn
  · exact .inr ⟨g, cap, cur, hv, Nat.le_trans hC hb, r⟩
theorem RowE.keepC {w w' : World} {B : Nat} {X : Nat → Prop} {v : Value} {es : List (Nat × Value)} (h : RowE w B v es) (hf : Kc X w w') (hd : ∀ k, v.ownBlock = some k → ¬ X k) : RowE w' B v es := by
  refine ⟨h.own.1, ?_⟩
  rcases h.own.2 with hn | ⟨g, cap, cur, hv, hb, hg, r⟩
  · exact .inl hn
  · exact .inr ⟨g, cap, cur, hv, hb, hf.same g _ hg rfl (hd g (by rw [hv]; rfl)), r⟩
theorem RowE.fr {w w' : World} {B : Nat} {X : Nat → Prop} {v : Value} {es : List (Nat × Value)} (h : RowE w B v es) (hf : Fr X w w') (hd : ∀ k, v.ownBlock = some k → ¬ X k) : RowE w' B v es := h.keepC (Kc.of_fr hf) hd
theorem RowE.below {w w' : World} {B : Nat} {v : Value} {es : List (Nat × Value)} (h : RowE w B v es) (hb : Below w.heap.size w w') : RowE w' B v es := h.fr (X := fun _ => False) (Fr.of_below _ hb) (fun _ _ e => e)
/-- Entries that lie somewhere. -/
structure SrcE (w : World) (p : Option Addr) (es : List (Nat × Value)) : Prop where
  ex : es = [] ∨ ∃ g o, p = some ⟨g, o, none⟩ ∧ g < w.heap.size ∧ ∀ j u, (flat es)[j]? = some u → w.cell? ⟨g, o + j, none⟩ = some u
theorem SrcE.keep {w w' : World} {p : Option Addr} {es : List (Nat × Value)} (h : SrcE w p es) (hb : Below w.heap.size w w') : SrcE w' p es := by
  rcases h.ex with h | ⟨g, o, hp, hg, hc⟩
  · exact ⟨.inl h⟩
  · exact ⟨.inr ⟨g, o, hp, Nat.lt_of_lt_of_le hg hb.size, fun j u hu => (hb.cell (p := ⟨g, o + j, none⟩) hg).trans (hc j u hu)⟩⟩
theorem SrcE.fr {w w' : World} {X : Nat → Prop} {p : Option Addr} {es : List (Nat × Value)} (h : SrcE w p es) (hf : Fr X w w') (hX : ∀ a, p = some a → ¬ X a.block) : SrcE w' p es := by
  rcases h.ex with h | ⟨g, o, hp, hg, hc⟩
  · exact ⟨.inl h⟩
  · exact ⟨.inr ⟨g, o, hp, Nat.lt_of_lt_of_le hg hf.size, fun j u hu => (World.cell?_of_block (a := ⟨g, o + j, none⟩) (hf.block g hg (hX _ hp))).trans (hc j u hu)⟩⟩
theorem SrcE.take {w : World} {p : Option Addr} {es : List (Nat × Value)} (h : SrcE w p es) (hN : Fit 2 es) {k : Nat} (hk : k ≤ es.length) : SrcE w p (es.take k) := by
  rcases h.ex with h | ⟨g, o, hp, hg, hc⟩
  · exact ⟨.inl (by rw [h]; simp)⟩
  · refine ⟨.inr ⟨g, o, hp, hg, fun j u hu => hc j u ?_⟩⟩
    rw [← flat_take hN hk, List.getElem?_take] at hu
    split at hu
    · exact hu
    · cases hu
theorem SrcE.drop {w : World} {g o : Nat} {es : List (Nat × Value)} (h : SrcE w (some ⟨g, o, none⟩) es) (hN : Fit 2 es) {k : Nat} (hk : k ≤ es.length) : SrcE w (some ⟨g, o + k * 2, none⟩) (es.drop k) := by
  rcases h.ex with h | ⟨g', o', hp, hg, hc⟩
  · exact ⟨.inl (by rw [h]; simp)⟩
  · cases hp
    refine ⟨.inr ⟨g, _, rfl, hg, fun j u hu => ?_⟩⟩
    rw [← flat_drop hN hk, List.getElem?_drop] at hu
    rw [Nat.add_assoc]; exact hc _ u hu
theorem RowE.form {w : World} {B : Nat} {v : Value} {es : List (Nat × Value)} (h : RowE w B v es) : ∃ a cap, v = .slice a es.length cap ∧ es.length ≤ cap ∧ cap ≤ maxLen ∧ SrcE w a es ∧ ∀ g, v.ownBlock = some g → B ≤ g ∧ g < w.heap.size := by
  refine (fun (x : ∃ a cap, v = .slice a es.length cap ∧ es.length ≤ cap ∧ cap ≤ maxLen ∧ SrcE w a es) => ?_) ?_
  · obtain ⟨a, cap, h1, h2, h3, h4⟩ := x
    exact ⟨a, cap, h1, h2, h3, h4, fun g hg => h.own.lt g hg⟩
  rcases h.own.2 with ⟨rfl, hl⟩ | ⟨g, cap, cur, rfl, hb, hg, h1, h2, h3, h4⟩
  · exact ⟨none, 0, by rw [hl], by omega, by unfold maxLen; omega, ⟨.inl (List.length_eq_zero_iff.1 hl)⟩⟩
  · refine ⟨_, cap, rfl, h1, h2, ⟨.inr ⟨g, 0, rfl, (Array.getElem?_eq_some_iff.1 hg).1, fun j u hu => ?_⟩⟩⟩
    rw [Nat.zero_add, cell_of_row w g j cur _ (0, 0) hg]
    rw [← h4, List.getElem?_take] at hu
    split at hu
    · simpa using hu
    · cases hu
theorem info_E : (Try.prog.info? 61).map (fun i => (i.zero, i.size, i.bytes)) = some (some (.agg #[.int .i64 0, .int .i64 0]), 2, 16) := by kernel_rfl
theorem rowE_new (w : World) : RowE (w.alloc (.cells #[] 61)) w.heap.size (.slice (some ⟨w.heap.size, 0, none⟩) 0 0) [] :=
  ⟨rfl, .inr ⟨w.heap.size, 0, #[], rfl, Nat.le_refl _, heap_alloc_new w _, Nat.le_refl _, by unfold maxLen; omega, by simp, rfl⟩⟩
theorem srcE_one (w : World) (n : Nat) (x : Int) : SrcE (w.alloc (.cells #[.int .i64 (n : Int), .int .i64 x] 61)) (some ⟨w.heap.size, 0, none⟩) [(n, .int .i64 x)] :=
  ⟨.inr ⟨w.heap.size, 0, rfl, by simp, fun j u hu => by
    rw [Nat.zero_add, cell_of_row _ _ _ _ _ _ (heap_alloc_new w _)]
    simpa [flat, Value.cells] using hu⟩⟩
theorem appendE_none (w : World) (q p : Option Addr) (n c cap : Nat) (ty : TypeId) (hn : n ≤ c) : (Builtin.append_ #[54, 54] ty #[.slice q n c, .slice p 0 cap]).run Try.prog w = .ok (.slice q n c) w := by
  obtain ⟨i0, hi, hz0, hz1, hz2⟩ := info_parts info_E
  cases p <;> cases q <;> simp [Builtin.append_, run_underlying Try.underlying54, sizeOf, typeInfo, hi, storeCells, Builtin.lenOf, Builtin.firstCells, go_sem, hn]
/-- Entries appended to a row of one's own. -/
theorem appendE {w : World} {B : Nat} {v : Value} {es us : List (Nat × Value)} {p : Option Addr} {cap : Nat} (ty : TypeId) (h : RowE w B v es) (ha : SrcE w p us) (hN : AllN us) (hB : B ≤ w.heap.size) (hl : es.length + us.length ≤ 100000) :
    ∃ a' c' w', (Builtin.append_ #[54, 54] ty #[v, .slice p us.length cap]).run Try.prog w = .ok (.slice a' (es ++ us).length c') w' ∧ RowE w' B (.slice a' (es ++ us).length c') (es ++ us) ∧ Below B w w' ∧ Fr (fun k => v.ownBlock = some k) w w' := by
  rcases ha.ex with rfl | ⟨g, o, rfl, hg, hc⟩
  · obtain ⟨q, c, rfl, hq, _⟩ := h.form
    exact ⟨q, c, _, by rw [List.append_nil]; exact appendE_none w q p es.length c cap ty hq, by rw [List.append_nil]; exact h, Below.refl _ _, Fr.refl _ _⟩
  · by_cases h0 : us = []
    · subst h0
      obtain ⟨q, c, rfl, hq, _⟩ := h.form
      exact ⟨q, c, _, by rw [List.append_nil]; exact appendE_none w q _ es.length c cap ty hq, by rw [List.append_nil]; exact h, Below.refl _ _, Fr.refl _ _⟩
    · have hpos : 0 < us.length := List.length_pos_iff.2 h0
      have hlen := flat_length hN.fit
      obtain ⟨i0, hi, hz0, hz1, hz2⟩ := info_parts info_E
      obtain ⟨g', cap', w', hr, ho, hgr, _, _⟩ := run_append_lies (P := Try.prog) w 54 ty B 61 i0 (.agg #[.int .i64 0, .int .i64 0]) 2 16 Try.underlying54 hi hz0 hz1 hz2 rfl (by decide) v es.length (flat es) h.own ⟨g, o, none⟩ us.length cap (flat us) (by omega) (fun j u hu => by rw [Addr.add_lit]; exact hc j u hu) hN.one (by omega) (by unfold maxLen; omega) (by omega) (by omega) w.heap.size rfl
      rw [← flat_append] at ho
      refine ⟨_, cap', w', by rw [List.length_append]; exact hr, ⟨?_⟩, ?_, Fr.of_grown hgr (fun k hk => hk)⟩
      · rw [List.length_append]; exact ho
      · exact ⟨hgr.os, hgr.tape, hgr.output, hgr.size, fun i hi => hgr.block i (by omega) (fun e => by have := (h.own.lt i e.symm).1; omega)⟩
/-- The document's own table: all within S. -/
structure RefT (W : World) (S : Nat → Prop) (rb : Nat) (mo : Int) (L : Nat) (es : List (Nat × Value)) (v : Value) : Prop where
  obj : W.heap[rb]? = some (.cells #[.int .i64 mo, .int .i64 L, v] 56 (0, 0))
  row : RowE W 0 v es
  inb : S rb
  inr : ∀ k, v.ownBlock = some k → S k ∧ k ≠ rb
  lt : ∀ k, S k → k < W.heap.size
theorem RefT.keepC {W W' : World} {S X : Nat → Prop} {rb L : Nat} {mo : Int} {es : List (Nat × Value)} {v : Value} (h : RefT W S rb mo L es v) (hf : Kc X W W') (hd : ∀ k, S k → ¬ X k) : RefT W' S rb mo L es v :=
  ⟨hf.same rb _ h.obj rfl (hd rb h.inb), h.row.keepC hf (fun k hk => hd k (h.inr k hk).1), h.inb, h.inr, fun k hk => Nat.lt_of_lt_of_le (h.lt k hk) hf.size⟩
theorem RefT.keep {W W' : World} {S S' : Nat → Prop} {rb L : Nat} {mo : Int} {es : List (Nat × Value)} {v : Value} (h : RefT W S rb mo L es v) (hf : Fr S' W W') (hd : ∀ k, S k → ¬ S' k) : RefT W' S rb mo L es v := h.keepC (Kc.of_fr hf) hd
theorem RefT.below {W W' : World} {S : Nat → Prop} {rb L : Nat} {mo : Int} {es : List (Nat × Value)} {v : Value} (h : RefT W S rb mo L es v) (hb : Below W.heap.size W W') : RefT W' S rb mo L es v :=
  h.keep (S' := fun _ => False) (Fr.of_below _ hb) (fun _ _ e => e)
theorem RefT.cells {W : World} {S : Nat → Prop} {rb L : Nat} {mo : Int} {es : List (Nat × Value)} {v : Value} (h : RefT W S rb mo L es v) : W.cell? ⟨rb, 0, none⟩ = some (.int .i64 mo) ∧ W.cell? ⟨rb, 1, none⟩ = some (.int .i64 (L : Int)) ∧ W.cell? ⟨rb, 2, none⟩ = some v := by
  refine ⟨?_, ?_, ?_⟩ <;> rw [cell_of_row W rb _ _ _ (0, 0) h.obj] <;> rfl
theorem RefT.thaw {W : World} {S : Nat → Prop} {rb L : Nat} {mo : Int} {es : List (Nat × Value)} {v : Value} (h : RefT W S rb mo L es v) (i : Nat) : W.frozen? ⟨rb, i, none⟩ = false := by simp [World.frozen?, h.obj]
/-- An entry's cells. -/
theorem RefT.at {W : World} {S : Nat → Prop} {rb L : Nat} {mo : Int} {es : List (Nat × Value)} {v : Value} (h : RefT W S rb mo L es v) (hN : AllN es) {k : Nat} (hk : k < es.length) :
    ∃ g cap, v = .slice (some ⟨g, 0, none⟩) es.length cap ∧ es.length ≤ cap ∧ cap ≤ maxLen ∧ S g ∧ g ≠ rb ∧ (∀ k (hk : k < es.length), W.cell? ⟨g, k * 2, none⟩ = some (.int .i64 es[k].1) ∧ W.cell? ⟨g, k * 2 + 1, none⟩ = some es[k].2) ∧ ∀ i, W.frozen? ⟨g, i, none⟩ = false := by
  rcases h.row.own.2 with ⟨_, hl⟩ | ⟨g, cap, cur, rfl, hb, hg, h1, h2, h3, h4⟩
  · omega
  · have hi := h.inr g rfl
    refine ⟨g, cap, rfl, h1, h2, hi.1, hi.2, fun k hk => ?_, fun i => by simp [World.frozen?, hg]⟩
    have hlen := flat_length hN.fit
    have get : ∀ j u, (flat es)[j]? = some u → W.cell? ⟨g, j, none⟩ = some u := fun j u hu => by
      rw [cell_of_row W g j cur _ (0, 0) hg]
      rw [← h4, List.getElem?_take] at hu
      split at hu
      · simpa using hu
      · cases hu
    have e0 := flat_at hN.fit hk 0 (by omega)
    have e1 := flat_at hN.fit hk 1 (by omega)
    obtain ⟨s, hs⟩ := hN k hk
    rw [hs] at e0 e1
    simp [Value.cells] at e0 e1
    refine ⟨get _ _ e0, ?_⟩
    rw [hs]; exact get _ _ e1
theorem RefT.setLast {W : World} {S : Nat → Prop} {rb L : Nat} {mo : Int} {es : List (Nat × Value)} {v : Value} (h : RefT W S rb mo L es v) (n : Nat) : RefT (W.setCell ⟨rb, 1, none⟩ (.int .i64 (n : Int))) S rb mo n es v ∧ Fr S W (W.setCell ⟨rb, 1, none⟩ (.int .i64 (n : Int))) := by
  refine ⟨⟨?_, h.row.fr (X := fun k => k = rb) ((Fr.refl (fun k => k = rb) W).setCell (p := ⟨rb, 1, none⟩) (show rb = rb from rfl) _) (fun k hk => (h.inr k hk).2), h.inb, h.inr, fun k hk => by have := h.lt k hk; simpa [World.setCell] using this⟩, (Fr.refl S W).setCell (p := ⟨rb, 1, none⟩) h.inb _⟩
  rw [heap_set_same h.obj]; rfl
/-- A new row stored. -/
theorem RefT.stored {W X : World} {S : Nat → Prop} {rb L : Nat} {mo : Int} {es fs : List (Nat × Value)} {v v' : Value} (h : RefT W S rb mo L es v) (hb : Below W.heap.size W X) (hr : RowE X W.heap.size v' fs) :
    RefT (X.setCell ⟨rb, 2, none⟩ v') (fun k => S k ∨ (W.heap.size ≤ k ∧ k < X.heap.size)) rb mo L fs v' ∧ Fr S W (X.setCell ⟨rb, 2, none⟩ v') ∧ Sub W S (fun k => S k ∨ (W.heap.size ≤ k ∧ k < X.heap.size)) := by
  have hrb := h.lt rb h.inb
  have hob : X.heap[rb]? = some (.cells #[.int .i64 mo, .int .i64 L, v] 56 (0, 0)) := by rw [hb.block rb hrb]; exact h.obj
  refine ⟨⟨?_, ?_, .inl h.inb, fun k hk => ?_, fun k hk => ?_⟩, (Fr.of_below S hb).setCell (p := ⟨rb, 2, none⟩) h.inb _, fun k hk => hk.imp id (fun e => e.1)⟩
  · rw [heap_set_same hob]; rfl
  · exact (hr.fr (X := fun k => k = rb) ((Fr.refl (fun k => k = rb) X).setCell (p := ⟨rb, 2, none⟩) (show rb = rb from rfl) _) (fun k hk => by have := (hr.own.lt k hk).1; omega)).base (Nat.zero_le _)
  · have := hr.own.lt k hk
    exact ⟨.inr this, by omega⟩
  · have e : (X.setCell ⟨rb, 2, none⟩ v').heap.size = X.heap.size := by simp [World.setCell]
    rw [e]
    rcases hk with hk | hk
    · exact Nat.lt_of_lt_of_le (h.lt k hk) hb.size
    · exact hk.2
/-- Where an id stands: -1 where it does not. -/
def place (es : List (Nat × Value)) (id : Int) (r : Int) : Prop := (r = -1 ∧ ∀ k (hk : k < es.length), (es[k].1 : Int) ≠ id) ∨ ∃ k, ∃ hk : k < es.length, r = (k : Int) ∧ (es[k].1 : Int) = id
set_option maxRecDepth 100000 in
set_option maxHeartbeats 1000000 in
theorem refFind (S : Nat → Prop) (rb L : Nat) (mo : Int) (es : List (Nat × Value)) (v : Value) (id : Int) (w : World) (h : RefT w S rb mo L es v) (hN : AllN es) :
    Calls Try.prog 25 #[.pointer (some ⟨rb, 0, none⟩), .int .i64 id] w fun e w' => (∃ r, e = .returned (.int .i64 r) ∧ place es id r) ∧ Below w.heap.size w w' := by
  obtain ⟨c0, c1, c2⟩ := h.cells
  obtain ⟨a, cap, rfl, hle, hmost, _, _⟩ := h.row.form
  unfold maxLen at hmost
  have H := hid h; have HN := hid hN
  clear h c0 c1 hN
  go_enter Try.func25, Try.ntmps25
  go_wp2_with fail
  go_loopw [5] (fun i wr => ∃ k : Nat, i = .int .i64 k ∧ k ≤ es.length ∧ (∀ j (hj : j < es.length), j < k → (es[j].1 : Int) ≠ id) ∧ Below w.heap.size w wr) (fun i _ => es.length - (intOf i).toNat)
  case atStart => exact ⟨0, rfl, Nat.zero_le _, fun j hj h => by omega, Below.refl _ _⟩
  case round =>
    obtain ⟨k, rfl, hk, hno, hB⟩ := hrel
    have hT := H.out.below hB
    obtain ⟨d0, d1, d2⟩ := hT.cells
    by_cases hlt : k < es.length
    · obtain ⟨g, cap', hv, _, _, _, _, hR, _⟩ := hT.at HN.out hlt
      cases hv
      have c3 := (hR k hlt).1
      have i1 : (k : Int) < (es.length : Int) := by omega
      obtain ⟨q, hq⟩ : ∃ q, es[k].1 = q := ⟨_, rfl⟩
      rw [hq] at c3
      by_cases he : (q : Int) = id
      · have HP := hid (show place es id (k : Int) from .inr ⟨k, hlt, rfl, by rw [hq]; exact he⟩)
        have HB := hid hB
        have e1 : ((q : Int) == id) = true := by rw [he]; simp
        clear hno hT hR hB he hq d0 d1
        go_wp2_with fail
        go_ret
        exact ⟨⟨_, rfl, HP.out⟩, HB.out⟩
      · have e1 : ((q : Int) == id) = false := by simpa using he
        have HNo := hid (show ∀ j (hj : j < es.length), j < k + 1 → (es[j].1 : Int) ≠ id from fun j hj h => by
          by_cases e : j = k
          · subst e; rw [hq]; exact he
          · exact hno j hj (by omega))
        have HB := hid hB
        clear hno hT hR hB he hq d0 d1
        go_wp2_with fail
        go_roundw
        case rel => exact ⟨k + 1, by go_num, by omega, HNo.out, HB.out⟩
        case measure => simp [intOf]; omega
    · have HP := hid (show place es id (-1) from .inl ⟨rfl, fun j hj => hno j hj (by omega)⟩)
      have HB := hid hB
      obtain rfl : k = es.length := by omega
      have i1 : ¬ (es.length : Int) < (es.length : Int) := by omega
      clear hno hT hB d0 d1
      go_wp2_with fail
      go_ret
      exact ⟨⟨_, rfl, HP.out⟩, HB.out⟩
end Go.Proofs.Ytechkkidebkadaa
