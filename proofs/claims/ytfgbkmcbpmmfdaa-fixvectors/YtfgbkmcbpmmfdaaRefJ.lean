/- Layer 1's own answers (embrasureref01): Sub, Neg. -/
import Derived.Test.YtfgbkmcbpmmfdaaRefI
namespace Go.Proofs.Ytfgbkmcbpmmfdaa
open Go.RowKit
set_option linter.unusedVariables false
attribute [local go_sem ↓] Go.wp_at_zero Go.wp_at_succ

/-- A box that is read. -/
def One (b : World) (s : Bool) (x : Value) (W : World) : Prop :=
  b.heap.size < W.heap.size ∧ W.cell? ⟨b.heap.size, 0, none⟩ = some (.bool s) ∧ W.cell? ⟨b.heap.size, 1, none⟩ = some x ∧ Below b.heap.size b W
theorem One.keep {w W W1 : World} {s : Bool} {x : Value} (hb : Below W.heap.size W W1) (h : One w s x W) : One w s x W1 :=
  ⟨Nat.lt_of_lt_of_le h.1 hb.size, keepCell hb h.1 h.2.1, keepCell hb h.1 h.2.2.1, h.2.2.2.trans (hb.mono (by have := h.1; omega))⟩
theorem One.start (w : World) (s : Bool) (x : Value) (T : TypeId) : One w s x (w.alloc (.cells #[.bool s, x] T)).drew :=
  ⟨by simp, by simp [go_sem], by simp [go_sem], ((Below.refl _ _).alloc (Nat.le_refl _) _).drew⟩
theorem sgn_not (t : Bool) (n : Nat) : sgn (!t) n = -sgn t n := by cases t <;> simp [sgn]
set_option maxHeartbeats 1000000 in
theorem refSub (a b : Int) (ha : I64 a) (hb : I64 b) (w : World) :
    Calls Try.prog 19 #[.int .i64 a, .int .i64 b] w fun e w' => e = .returned (.int .i64 (sat (a - b))) ∧ Below w.heap.size w w' := by
  obtain ⟨R, hR⟩ : ∃ R, sat (a - b) = R := ⟨_, rfl⟩
  have HR : Hid _ := hR
  rw [hR]
  clear hR
  go_enter Try.func19, Try.ntmps19
  go_wp2_with fail
  refine (refOf b hb _).mono ?_; rintro e w1 ⟨⟨c1, k1, ys, rfl, r1, v1, m1, t1, l1, f1⟩, b1⟩
  generalize decide (b < 0) = t at *
  have V1 : Hid _ := v1
  clear v1 m1
  obtain ⟨s, hs⟩ : ∃ s, (!t) = s := ⟨_, rfl⟩
  have HS : Hid _ := hs
  have hst := One.start w1 s (.slice c1 ys.length k1) 43
  clear f1
  go_wp2_with fail
  try simp only [hs]
  clear hs
  unfold One at hst
  go_region_held3 (fun W => w1.heap.size < W.heap.size ∧ W.cell? ⟨w1.heap.size, 0, none⟩ = some (.bool s) ∧ W.cell? ⟨w1.heap.size, 1, none⟩ = some (.slice c1 ys.length k1) ∧ Below w1.heap.size w1 W)
    (first | assumption | exact One.keep (by assumption) (by assumption))
    (first
      | (go_at_call 42; refine (refOf a ha _).mono ?_; rintro e w2 ⟨⟨c2, k2, xs, rfl, r2, v2, m2, t2, l2, f2⟩, b2⟩)
      | (go_at_call 41; refine (refPlus _ s c2 c1 k2 k1 xs ys _ r2 (r1.keep (by go_split_ands; assumption)) t2 t1 (by omega) (by omega)).mono ?_; rintro e w3 ⟨⟨u, c3, k3, zs, rfl, r3, v3, t3, l3, f3⟩, b3⟩)
      | (go_at_call 40; refine (refInt u c3 k3 zs _ r3).mono ?_; rintro e w4 ⟨rfl, b4⟩))
  rename_i hH
  have hfin : numb ((val zs : Nat) : Int) u = R := by rw [numb_sgn, v3, v2, ← HS.out, sgn_not, V1.out, ← HR.out]; rfl
  have hB := btrans b1 hH.2.2.2
  rw [hfin]
  clear hH v2 m2 v3 b2 b3 b4 hst
  go_wp2
  go_ret
  exact ⟨rfl, hB⟩
theorem refNeg (a : Int) (ha : I64 a) (w : World) :
    Calls Try.prog 21 #[.int .i64 a] w fun e w' => e = .returned (.int .i64 (sat (-a))) ∧ Below w.heap.size w w' := by
  go_enter Try.func21, Try.ntmps21
  go_wp2_with (go_at_call 19; refine (refSub 0 a i64_0 ha _).mono ?_; rintro e w' ⟨rfl, b1⟩)
  go_ret
  exact ⟨rfl, b1⟩
end Go.Proofs.Ytfgbkmcbpmmfdaa
