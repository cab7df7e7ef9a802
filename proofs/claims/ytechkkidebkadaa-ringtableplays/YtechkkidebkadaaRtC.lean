/- Layer 2 (ring): both tables beside each other (for RingTablePlays); steps that came in. -/
import Derived.Test.YtechkkidebkadaaRtD
import Derived.Deep.Cut
namespace Go.Proofs.Ytechkkidebkadaa
open Go.RowKit Go.Shelf
set_option linter.unusedVariables false

/-- Blocks that are as they were. -/
def Kx (xs : List Nat) (W W' : World) : Prop := ∀ k ∈ xs, W'.heap[k]? = W.heap[k]?
theorem Kx.trans {xs : List Nat} {A B C : World} (h : Kx xs A B) (k : Kx xs B C) : Kx xs A C := fun i hi => (k i hi).trans (h i hi)
theorem Vr.kx {W W' : World} {xs : List Nat} {b : Nat} {t : TypeId} {v : Value} (h : Vr W b t v) (k : Kx xs W W') (hb : b ∈ xs) : Vr W' b t v := ⟨(k b hb).trans h.obj⟩
theorem Marks.kx {W W' : World} {xs Ds : List Nat} (h : Marks W Ds) (k : Kx xs W W') (hs : ∀ D ∈ Ds, D ∈ xs) : Marks W' Ds := fun D hD => (k D (hs D hD)).trans (h D hD)
/-- Both tables, apart from each other and from the blocks xs. -/
structure TT (B : Nat) (xs : List Nat) (w W : World) (t rb m : Nat) (mo : Int) (es fs : List (Nat × Value)) (L K : Nat) : Prop where
  ex : ∃ S0 S1 v, TableAt 88 90 2 W S0 t m es L ∧ RefT W S1 rb mo K fs v ∧ (∀ k, S0 k → ¬ S1 k) ∧ (∀ k, S0 k → B ≤ k ∧ k ∉ xs) ∧ (∀ k, S1 k → B ≤ k ∧ k ∉ xs)
  bel : Below B w W
  le : B ≤ W.heap.size
  xl : ∀ k ∈ xs, k < W.heap.size
  n0 : AllN es
  n1 : AllN fs
section
variable {B : Nat} {xs : List Nat} {w W W' : World} {t rb m : Nat} {mo : Int} {es fs es' fs' : List (Nat × Value)} {L K L' K' : Nat}
theorem TT.t_call (h : TT B xs w W t rb m mo es fs L K) {f : Nat} {args : Array Value} {R : Ending → Prop} (hN : AllN es')
    (hc : ∀ S0, TableAt 88 90 2 W S0 t m es L → Calls Try.prog f args W fun e w' => R e ∧ ∃ S', TableAt 88 90 2 w' S' t m es' L' ∧ Fr S0 W w' ∧ Sub W S0 S') :
    Calls Try.prog f args W fun e W' => R e ∧ TT B xs w W' t rb m mo es' fs L' K ∧ Kx xs W W' := by
  obtain ⟨⟨S0, S1, v, h0, h1, hd, hf0, hf1⟩, hb, hle, hx, n0, n1⟩ := h
  refine (hc S0 h0).mono ?_
  rintro e w' ⟨hR, S', g0, gf, gs⟩
  refine ⟨hR, ⟨⟨S', S1, v, g0, h1.keep gf (fun k a b => hd k b a), fun k hk => ?_, fun k hk => ?_, hf1⟩, hb.trans (gf.below hle (fun k hk => (hf0 k hk).1)), Nat.le_trans hle gf.size, fun k hk => Nat.lt_of_lt_of_le (hx k hk) gf.size, hN, n1⟩, fun k hk => gf.block k (hx k hk) (fun e => (hf0 k e).2 hk)⟩
  · rcases gs k hk with e | e
    · exact hd k e
    · intro e2; have := h1.lt k e2; omega
  · rcases gs k hk with e | e
    · exact hf0 k e
    · exact ⟨by omega, fun e2 => by have := hx k e2; omega⟩
theorem TT.r_call (h : TT B xs w W t rb m mo es fs L K) {f : Nat} {args : Array Value} {R : Ending → Prop} (hN : AllN fs')
    (hc : ∀ S1 v, RefT W S1 rb mo K fs v → Calls Try.prog f args W fun e w' => R e ∧ ∃ S' v', RefT w' S' rb mo K' fs' v' ∧ Fr S1 W w' ∧ Sub W S1 S') :
    Calls Try.prog f args W fun e W' => R e ∧ TT B xs w W' t rb m mo es fs' L K' ∧ Kx xs W W' := by
  obtain ⟨⟨S0, S1, v, h0, h1, hd, hf0, hf1⟩, hb, hle, hx, n0, n1⟩ := h
  refine (hc S1 v h1).mono ?_
  rintro e w' ⟨hR, S', v', g0, gf, gs⟩
  refine ⟨hR, ⟨⟨S0, S', v', h0.keep gf hd, g0, fun k hk hk' => ?_, hf0, fun k hk => ?_⟩, hb.trans (gf.below hle (fun k hk => (hf1 k hk).1)), Nat.le_trans hle gf.size, fun k hk => Nat.lt_of_lt_of_le (hx k hk) gf.size, n0, hN⟩, fun k hk => gf.block k (hx k hk) (fun e => (hf1 k e).2 hk)⟩
  · rcases gs k hk' with e | e
    · exact hd k hk e
    · have := h0.lt k hk; omega
  · rcases gs k hk with e | e
    · exact hf1 k e
    · exact ⟨by omega, fun e2 => by have := hx k e2; omega⟩
theorem TT.quiet (h : TT B xs w W t rb m mo es fs L K) (hb : Below W.heap.size W W') : TT B xs w W' t rb m mo es fs L K ∧ Kx xs W W' := by
  obtain ⟨⟨S0, S1, v, h0, h1, hd, hf0, hf1⟩, hbb, hle, hx, n0, n1⟩ := h
  exact ⟨⟨⟨S0, S1, v, h0.below hb, h1.below hb, hd, hf0, hf1⟩, hbb.trans (hb.mono hle), Nat.le_trans hle hb.size, fun k hk => Nat.lt_of_lt_of_le (hx k hk) hb.size, n0, n1⟩, fun k hk => hb.block k (hx k hk)⟩
theorem TT.tab (h : TT B xs w W t rb m mo es fs L K) : ∃ S, TableAt 88 90 2 W S t m es L ∧ ∀ k, S k → k ∉ xs := by
  obtain ⟨⟨S0, S1, v, h0, h1, hd, hf0, hf1⟩, hbb, hle, hx, n0, n1⟩ := h
  exact ⟨S0, h0, fun k hk => (hf0 k hk).2⟩
theorem TT.ref (h : TT B xs w W t rb m mo es fs L K) : ∃ S v, RefT W S rb mo K fs v ∧ ∀ k, S k → k ∉ xs := by
  obtain ⟨⟨S0, S1, v, h0, h1, hd, hf0, hf1⟩, hbb, hle, hx, n0, n1⟩ := h
  exact ⟨S1, v, h1, fun k hk => (hf1 k hk).2⟩
theorem TT.alloc (h : TT B xs w W t rb m mo es fs L K) (o : Obj) : TT B (W.heap.size :: xs) w (W.alloc o) t rb m mo es fs L K := by
  have hq := h.quiet ((Below.refl _ W).alloc (Nat.le_refl _) o)
  obtain ⟨⟨S0, S1, v, h0, h1, hd, hf0, hf1⟩, hbb, hle, hx, n0, n1⟩ := h
  have hb : Below W.heap.size W (W.alloc o) := (Below.refl _ W).alloc (Nat.le_refl _) o
  refine ⟨⟨S0, S1, v, h0.below hb, h1.below hb, hd, fun k hk => ⟨(hf0 k hk).1, fun e => ?_⟩, fun k hk => ⟨(hf1 k hk).1, fun e => ?_⟩⟩, hq.1.bel, hq.1.le, fun k hk => ?_, n0, n1⟩
  · rcases List.mem_cons.1 e with rfl | e
    · have := h0.lt _ hk; omega
    · exact (hf0 k hk).2 e
  · rcases List.mem_cons.1 e with rfl | e
    · have := h1.lt _ hk; omega
    · exact (hf1 k hk).2 e
  · rcases List.mem_cons.1 hk with rfl | e
    · simp
    · have := hx k e; simp; omega
theorem kx_alloc (hx : ∀ k ∈ xs, k < W.heap.size) (o : Obj) : Kx xs W (W.alloc o) := fun k hk => Below.heap_alloc _ _ _ (hx k hk)
theorem TT.fr (h : TT B xs w W t rb m mo es fs L K) (hf : Fr (fun k => k ∈ xs ∧ B ≤ k) W W') : TT B xs w W' t rb m mo es fs L K := by
  obtain ⟨⟨S0, S1, v, h0, h1, hd, hf0, hf1⟩, hbb, hle, hx, n0, n1⟩ := h
  exact ⟨⟨S0, S1, v, h0.keep hf (fun k hk e => (hf0 k hk).2 e.1), h1.keep hf (fun k hk e => (hf1 k hk).2 e.1), hd, hf0, hf1⟩, hbb.trans (hf.below hle (fun k hk => hk.2)), Nat.le_trans hle hf.size, fun k hk => Nat.lt_of_lt_of_le (hx k hk) hf.size, n0, n1⟩
theorem TT.set (h : TT B xs w W t rb m mo es fs L K) {b o : Nat} (hb : b ∈ xs) (hB : B ≤ b) (u : Value) : TT B xs w (W.setCell ⟨b, o, none⟩ u) t rb m mo es fs L K :=
  h.fr ((Fr.refl _ W).setCell (p := ⟨b, o, none⟩) ⟨hb, hB⟩ u)
theorem TT.keepC {X : Nat → Prop} (h : TT B xs w W t rb m mo es fs L K) (hk : Kc X W W') (hX : ∀ k, X k → k ∈ xs) (hb : Below B w W') : TT B xs w W' t rb m mo es fs L K := by
  obtain ⟨⟨S0, S1, v, h0, h1, hd, hf0, hf1⟩, hbb, hle, hx, n0, n1⟩ := h
  exact ⟨⟨S0, S1, v, h0.keepC hk (fun k hk e => (hf0 k hk).2 (hX k e)), h1.keepC hk (fun k hk e => (hf1 k hk).2 (hX k e)), hd, hf0, hf1⟩, hb, Nat.le_trans hle hk.size, fun k hk' => Nat.lt_of_lt_of_le (hx k hk') hk.size, n0, n1⟩
theorem TT.sub {ys : List Nat} (h : TT B xs w W t rb m mo es fs L K) (hs : ∀ k ∈ ys, k ∈ xs) : TT B ys w W t rb m mo es fs L K := by
  obtain ⟨⟨S0, S1, v, h0, h1, hd, hf0, hf1⟩, hbb, hle, hx, n0, n1⟩ := h
  exact ⟨⟨S0, S1, v, h0, h1, hd, fun k hk => ⟨(hf0 k hk).1, fun e => (hf0 k hk).2 (hs k e)⟩, fun k hk => ⟨(hf1 k hk).1, fun e => (hf1 k hk).2 (hs k e)⟩⟩, hbb, hle, fun k hk => hx k (hs k hk), n0, n1⟩
theorem TT.keepD {X : Nat → Prop} {D : Nat} (h : TT B xs w W t rb m mo es fs L K) (hk : Kc X W W') (hX : ∀ k, X k → k ∈ xs) (hb : Below B w W') (hD : W.heap.size ≤ D) (hDl : D < W'.heap.size) : TT B (D :: xs) w W' t rb m mo es fs L K := by
  obtain ⟨⟨S0, S1, v, h0, h1, hd, hf0, hf1⟩, hbb, hle, hx, n0, n1⟩ := h
  refine ⟨⟨S0, S1, v, h0.keepC hk (fun k hk e => (hf0 k hk).2 (hX k e)), h1.keepC hk (fun k hk e => (hf1 k hk).2 (hX k e)), hd, fun k hk => ⟨(hf0 k hk).1, fun e => ?_⟩, fun k hk => ⟨(hf1 k hk).1, fun e => ?_⟩⟩, hb, Nat.le_trans hle hk.size, fun k hk' => ?_, n0, n1⟩
  · rcases List.mem_cons.1 e with rfl | e
    · have := h0.lt _ hk; omega
    · exact (hf0 k hk).2 e
  · rcases List.mem_cons.1 e with rfl | e
    · have := h1.lt _ hk; omega
    · exact (hf1 k hk).2 e
  · rcases List.mem_cons.1 hk' with rfl | e
    · exact hDl
    · exact Nat.lt_of_lt_of_le (hx k e) hk.size
end
/-- The way out: all marks are taken, and the answer is told. -/
theorem leaves_marksT {F : Fence} {n : Nat} {P : Program} {fn : Func} {tmps : Array Value} {B : Nat} {w : World} (hr : ∀ W : World, (results fn tmps).run P W = .ok (.bool true) W) :
    ∀ (Ds : List Nat) (W : World), Marks W Ds → Ds.Nodup → (∀ D ∈ Ds, B ≤ D) → Below B w W →
      LeavesInM F n P fn tmps (fun e w' => e = .returned (.bool true) ∧ Below B w w') (Ds.map mark) .returning W
  | [], W, _, _, _, hb => ⟨.bool true, hr W, rfl, hb⟩
  | D :: r, W, hm, hn, hB, hb => by
    have hD := hm D (List.mem_cons_self ..)
    refine ⟨by simp, .inl ⟨D, _, rfl, run_takeDeferred hD, ?_⟩⟩
    refine leaves_marksT hr r _ (fun k hk => ?_) (List.nodup_cons.1 hn).2 (fun k hk => hB k (List.mem_cons_of_mem _ hk)) ?_
    · rw [World.putObj_heap_other (fun e => (List.nodup_cons.1 hn).1 (by rw [← e]; exact hk))]
      exact hm k (List.mem_cons_of_mem _ hk)
    · refine hb.trans ⟨rfl, rfl, rfl, by simp, fun k hk => World.putObj_heap_other (fun e => ?_)⟩
      have := hB D (List.mem_cons_self ..)
      omega
/-- Steps that were handed in. -/
structure ArgT (w : World) (p : Option Addr) (n cap : Nat) (Q I X : Nat → Int) : Prop where
  le : n ≤ cap
  most : cap ≤ maxLen
  cells : n = 0 ∨ ∃ b o, p = some ⟨b, o, none⟩ ∧ b < w.heap.size ∧ ∀ i, i < n → w.cell? ⟨b, o + i * 3, none⟩ = some (.int .i64 (Q i)) ∧ w.cell? ⟨b, o + i * 3 + 1, none⟩ = some (.int .i64 (I i)) ∧ w.cell? ⟨b, o + i * 3 + 2, none⟩ = some (.int .i64 (X i))
theorem ArgT.keep {w w' : World} {p : Option Addr} {n cap : Nat} {Q I X : Nat → Int} (h : ArgT w p n cap Q I X) (hb : Below w.heap.size w w') : ArgT w' p n cap Q I X := by
  refine ⟨h.le, h.most, ?_⟩
  rcases h.cells with h | ⟨b, o, rfl, hlt, hc⟩
  · exact .inl h
  · exact .inr ⟨b, o, rfl, Nat.lt_of_lt_of_le hlt hb.size, fun i hi => ⟨(hb.cell (p := ⟨b, o + i * 3, none⟩) hlt).trans (hc i hi).1, (hb.cell (p := ⟨b, o + i * 3 + 1, none⟩) hlt).trans (hc i hi).2.1, (hb.cell (p := ⟨b, o + i * 3 + 2, none⟩) hlt).trans (hc i hi).2.2⟩⟩
theorem ArgT.at {w : World} {p : Option Addr} {n cap : Nat} {Q I X : Nat → Int} (h : ArgT w p n cap Q I X) {i : Nat} (hi : i < n) : ∃ b o, p = some ⟨b, o, none⟩ ∧ b < w.heap.size ∧ ∀ i, i < n → w.cell? ⟨b, o + i * 3, none⟩ = some (.int .i64 (Q i)) ∧ w.cell? ⟨b, o + i * 3 + 1, none⟩ = some (.int .i64 (I i)) ∧ w.cell? ⟨b, o + i * 3 + 2, none⟩ = some (.int .i64 (X i)) := by
  rcases h.cells with h | h
  · omega
  · exact h
end Go.Proofs.Ytechkkidebkadaa
