/- Layer 1 (fix): along, at Long and at Dot; Long, Dot. -/
import Derived.Test.YtfgbkmcbpmmfdaaFixC
import Derived.Deep.RegionWith
namespace Go.Proofs.Ytfgbkmcbpmmfdaa
open Go.RowKit
set_option linter.unusedVariables false
attribute [local go_sem ↓] Go.wp_at_zero Go.wp_at_succ

theorem two_new {W : World} {b : Nat} {x y u0 u1 : Value} (h0 : W.cell? ⟨b, 0, none⟩ = some u0) (h1 : W.cell? ⟨b, 1, none⟩ = some u1) :
    ((W.setCell ⟨b, 0, none⟩ x).setCell ⟨b, 1, none⟩ y).cell? ⟨b, 0, none⟩ = some x ∧ ((W.setCell ⟨b, 0, none⟩ x).setCell ⟨b, 1, none⟩ y).cell? ⟨b, 1, none⟩ = some y := by
  obtain ⟨_, k1⟩ := some_set (a := ⟨b, 0, none⟩) (x := x) h1
  refine ⟨?_, World.cell?_setCell_same _ _ _ k1⟩
  rw [World.cell?_setCell_other _ _ _ _ (by simp)]; exact World.cell?_setCell_same _ _ _ h0

/-- The sum in the box grows by a product. -/
def Adds (c : Nat) (w w' : World) (n : Int) : Prop :=
  w'.os = w.os ∧ w'.tape = w.tape ∧ w'.output = w.output ∧ w.heap.size ≤ w'.heap.size ∧ (∀ k, k < w.heap.size → k ≠ c → w'.heap[k]? = w.heap[k]?) ∧
  w'.cell? ⟨c, 0, none⟩ = some (.int .u64 (hi64 n)) ∧ w'.cell? ⟨c, 1, none⟩ = some (.int .u64 (lo64 n)) ∧ w'.frozen? ⟨c, 0, none⟩ = false ∧ w'.frozen? ⟨c, 1, none⟩ = false

theorem adds_mk {c : Nat} {w w2 : World} {n m : Int} {u0 u1 : Value} (e : m = n) (hb : Below w.heap.size w w2) (hlt : c < w.heap.size) (h0 : w2.cell? ⟨c, 0, none⟩ = some u0) (h1 : w2.cell? ⟨c, 1, none⟩ = some u1)
    (f0 : w2.frozen? ⟨c, 0, none⟩ = false) (f1 : w2.frozen? ⟨c, 1, none⟩ = false) : Adds c w ((w2.setCell ⟨c, 0, none⟩ (.int .u64 (hi64 m))).setCell ⟨c, 1, none⟩ (.int .u64 (lo64 m))) n := by
  subst e
  obtain ⟨r0, r1⟩ := two_new (x := .int .u64 (hi64 m)) (y := .int .u64 (lo64 m)) h0 h1
  refine ⟨hb.os, hb.tape, hb.output, by simpa [World.setCell] using hb.size, fun k hk hne => ?_, r0, r1, ?_, ?_⟩
  · rw [Below.heap_setCell _ _ _ _ hne, Below.heap_setCell _ _ _ _ hne]; exact hb.block k hk
  · rw [World.frozen?_setCell, World.frozen?_setCell]; exact f0
  · rw [World.frozen?_setCell, World.frozen?_setCell]; exact f1

theorem bdrew {w w1 : World} (h : Below w.drew.heap.size w.drew w1) : Below w.heap.size w w1 := ⟨h.os, h.tape, h.output, h.size, h.block⟩
theorem Adds.trans {c : Nat} {w w1 w2 : World} {n m : Int} (h : Adds c w w1 n) (k : Adds c w1 w2 m) : Adds c w w2 m := by
  obtain ⟨a1, a2, a3, a4, a5, _⟩ := h
  obtain ⟨b1, b2, b3, b4, b5, b6⟩ := k
  exact ⟨b1.trans a1, b2.trans a2, b3.trans a3, Nat.le_trans a4 b4, fun i hi hne => (b5 i (by omega) hne).trans (a5 i hi hne), b6⟩
theorem Adds.of_below {c : Nat} {w w1 w2 : World} {n : Int} (h : Below w.heap.size w w1) (k : Adds c w1 w2 n) : Adds c w w2 n := by
  obtain ⟨b1, b2, b3, b4, b5, b6⟩ := k
  exact ⟨b1.trans h.os, b2.trans h.tape, b3.trans h.output, Nat.le_trans h.size b4, fun i hi hne => (b5 i (by have := h.size; omega) hne).trans (h.block i hi), b6⟩
theorem Adds.below {c B : Nat} {w w1 : World} {n : Int} (h : Adds c w w1 n) (hB : B ≤ c) (hw : B ≤ w.heap.size) : Below B w w1 :=
  ⟨h.1, h.2.1, h.2.2.1, h.2.2.2.1, fun k hk => h.2.2.2.2.1 k (by omega) (by omega)⟩
theorem Adds.cell {c : Nat} {w w1 : World} {n : Int} (h : Adds c w w1 n) {b o : Nat} {v : Value} (hb : b < w.heap.size) (hne : b ≠ c) (hv : w.cell? ⟨b, o, none⟩ = some v) : w1.cell? ⟨b, o, none⟩ = some v :=
  (World.cell?_of_block (w := w) (h.2.2.2.2.1 b hb hne)).trans hv

set_option maxHeartbeats 2000000 in
theorem longFn (x y n : Int) (c : Nat) (hx : I64 x) (hy : I64 y) (hn : U128 n) (hs : U128 (n + mag x * mag y)) (w : World) (hlt : c < w.heap.size)
    (hc0 : w.cell? ⟨c, 0, none⟩ = some (.int .u64 (hi64 n))) (hc1 : w.cell? ⟨c, 1, none⟩ = some (.int .u64 (lo64 n))) (hf0 : w.frozen? ⟨c, 0, none⟩ = false) (hf1 : w.frozen? ⟨c, 1, none⟩ = false) :
    Calls Try.prog 62 #[.int .i64 x, .int .i64 y, .pointer (some ⟨c, 0, none⟩)] w fun e w' => e = .returned (.tuple #[]) ∧ Adds c w w' (n + mag x * mag y) := by
  have hp := mul_u128 (mag_u64 hx) (mag_u64 hy)
  go_enter Try.func62, Try.ntmps62
  go_wp2
  go_region_with (first
    | (go_at_call 45; refine (fixSize _ (by assumption) _).mono ?_; rintro e w' ⟨rfl, rfl⟩)
    | (go_at_call 44; refine (fixProduct _ _ (mag_u64 hx) (mag_u64 hy) _).mono ?_; rintro e w1 ⟨rfl, bel⟩; have k0 := keepCell bel hlt hc0; have k1 := keepCell bel hlt hc1; have k2 := keepFrozen bel hlt hf0; have k3 := keepFrozen bel hlt hf1)
    | (go_at_call 59; refine (fixPlus _ _ _ _ (hi64_u64 hn) (lo64_u64 _) (hi64_u64 hp) (lo64_u64 _) (by rw [join64, join64]; exact hs) _).mono ?_; rintro e w2 ⟨rfl, bel2⟩; have hl1 : c < w1.heap.size := Nat.lt_of_lt_of_le hlt bel.size; have m0 := keepCell bel2 hl1 k0; have m1 := keepCell bel2 hl1 k1; have m2 := keepFrozen bel2 hl1 k2; have m3 := keepFrozen bel2 hl1 k3))
  all_goals
    go_end0
    exact ⟨rfl, adds_mk (by rw [join64, join64]) (btrans (bdrew bel) bel2) hlt (by assumption) (by assumption) (by assumption) (by assumption)⟩

set_option maxHeartbeats 2000000 in
theorem alongLong (a1 a2 a3 n : Int) (c : Nat) (h1 : I64 a1) (h2 : I64 a2) (h3 : I64 a3) (hn : U128 n) (s1 : U128 (n + mag a1 * mag a1)) (s2 : U128 (n + mag a1 * mag a1 + mag a2 * mag a2)) (s3 : U128 (n + mag a1 * mag a1 + mag a2 * mag a2 + mag a3 * mag a3)) (w : World) (hlt : c < w.heap.size)
    (hc0 : w.cell? ⟨c, 0, none⟩ = some (.int .u64 (hi64 n))) (hc1 : w.cell? ⟨c, 1, none⟩ = some (.int .u64 (lo64 n))) (hf0 : w.frozen? ⟨c, 0, none⟩ = false) (hf1 : w.frozen? ⟨c, 1, none⟩ = false) :
    Calls Try.prog 57 #[.agg #[.int .i64 a1, .int .i64 a2, .int .i64 a3], .agg #[.int .i64 a1, .int .i64 a2, .int .i64 a3], .func (.func 62) #[] #[.pointer (some ⟨c, 0, none⟩)]] w fun e w' =>
      e = .returned (.tuple #[]) ∧ Adds c w w' (n + mag a1 * mag a1 + mag a2 * mag a2 + mag a3 * mag a3) := by
  go_enter Try.func57, Try.ntmps57
  go_wp2_with fail
  generalize hW : ((w.alloc (.cells #[.int .i64 a1, .int .i64 a2, .int .i64 a3] 27)).alloc (.cells #[.int .i64 a1, .int .i64 a2, .int .i64 a3] 27)) = W
  have hB : Below w.heap.size w W := by rw [← hW]; exact ((Below.refl _ _).alloc (Nat.le_refl _) _).alloc (by simp) _
  have hsz : w.heap.size + 1 < W.heap.size := by rw [← hW]; simp
  have q1 : ∀ W1 : World, Adds c W W1 (n + mag a1 * mag a1) → W1.cell? ⟨w.heap.size, 1, none⟩ = some (.int .i64 a2) ∧ W1.cell? ⟨w.heap.size + 1, 1, none⟩ = some (.int .i64 a2) := by
    intro W1 h
    refine ⟨h.cell (by omega) (by omega) ?_, h.cell (by omega) (by omega) ?_⟩ <;> (rw [← hW]; simp [go_sem])
  have q2 : ∀ W1 : World, Adds c W W1 (n + mag a1 * mag a1 + mag a2 * mag a2) → W1.cell? ⟨w.heap.size, 2, none⟩ = some (.int .i64 a3) ∧ W1.cell? ⟨w.heap.size + 1, 2, none⟩ = some (.int .i64 a3) := by
    intro W1 h
    refine ⟨h.cell (by omega) (by omega) ?_, h.cell (by omega) (by omega) ?_⟩ <;> (rw [← hW]; simp [go_sem])
  clear hW
  refine (longFn a1 a1 n c h1 h1 hn s1 W (Nat.lt_of_lt_of_le hlt hB.size) (keepCell hB hlt hc0) (keepCell hB hlt hc1) (keepFrozen hB hlt hf0) (keepFrozen hB hlt hf1)).mono ?_
  rintro e W1 ⟨rfl, A1⟩
  obtain ⟨x1, y1⟩ := q1 W1 A1
  go_wp2_with fail
  refine (longFn a2 a2 _ c h2 h2 s1 s2 W1 (Nat.lt_of_lt_of_le hlt (Nat.le_trans hB.size A1.2.2.2.1)) A1.2.2.2.2.2.1 A1.2.2.2.2.2.2.1 A1.2.2.2.2.2.2.2.1 A1.2.2.2.2.2.2.2.2).mono ?_
  rintro e W2 ⟨rfl, A2⟩
  have A12 := A1.trans A2
  obtain ⟨x2, y2⟩ := q2 W2 A12
  go_wp2_with fail
  refine (longFn a3 a3 _ c h3 h3 s2 s3 W2 (Nat.lt_of_lt_of_le hlt (Nat.le_trans hB.size A12.2.2.2.1)) A12.2.2.2.2.2.1 A12.2.2.2.2.2.2.1 A12.2.2.2.2.2.2.2.1 A12.2.2.2.2.2.2.2.2).mono ?_
  rintro e W3 ⟨rfl, A3⟩
  have A := Adds.of_below hB (A12.trans A3)
  clear q1 q2
  go_wp2
  go_end0
  exact ⟨rfl, A⟩

end Go.Proofs.Ytfgbkmcbpmmfdaa
