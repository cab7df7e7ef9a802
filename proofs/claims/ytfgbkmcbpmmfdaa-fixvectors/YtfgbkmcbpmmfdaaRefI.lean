/- Layer 1's own answers (embrasureref01): Of of any number, Add, Mul, Sub, Neg. -/
import Derived.Test.YtfgbkmcbpmmfdaaRefG
namespace Go.Proofs.Ytfgbkmcbpmmfdaa
open Go.RowKit
set_option linter.unusedVariables false
attribute [local go_sem ↓] Go.wp_at_zero Go.wp_at_succ

theorem numb_sgn (s : Bool) (n : Nat) : numb (n : Int) s = sat (sgn s n) := by cases s <;> rfl
theorem refOf (n : Int) (hn : I64 n) (w : World) :
    Calls Try.prog 42 #[.int .i64 n] w fun e w' =>
      (∃ c cc rs, e = .returned (.agg #[.bool (decide (n < 0)), .slice c rs.length cc]) ∧ Row w' c cc rs ∧ sgn (decide (n < 0)) (val rs) = n ∧ ((val rs : Nat) : Int) = mag n ∧ Trim rs ∧ rs.length ≤ 4 ∧ Fresh w.heap.size c) ∧ Below w.heap.size w w' := by
  obtain ⟨h1, h2⟩ := hn
  by_cases h : n < 0
  · obtain ⟨m, rfl⟩ : ∃ m : Nat, n = -(m : Int) := ⟨n.natAbs, by omega⟩
    refine (refOfN m (by omega) (by omega) w).mono ?_
    rintro e w' ⟨⟨c, cc, rs, rfl, hr, hv, ht, hl, hf⟩, bel⟩
    rw [decide_eq_true h]
    exact ⟨⟨c, cc, rs, rfl, hr, by rw [hv]; rfl, by unfold mag; rw [if_pos h]; omega, ht, hl, hf⟩, bel⟩
  · obtain ⟨m, rfl⟩ : ∃ m : Nat, n = (m : Int) := ⟨n.natAbs, by omega⟩
    refine (refOfP m (by omega) w).mono ?_
    rintro e w' ⟨⟨c, cc, rs, rfl, hr, hv, ht, hl, hf⟩, bel⟩
    rw [decide_eq_false h]
    exact ⟨⟨c, cc, rs, rfl, hr, by rw [hv]; rfl, by unfold mag; rw [if_neg h]; omega, ht, hl, hf⟩, bel⟩

set_option maxHeartbeats 1000000 in
theorem refAdd (a b : Int) (ha : I64 a) (hb : I64 b) (w : World) :
    Calls Try.prog 17 #[.int .i64 a, .int .i64 b] w fun e w' => e = .returned (.int .i64 (sat (a + b))) ∧ Below w.heap.size w w' := by
  obtain ⟨R, hR⟩ : ∃ R, sat (a + b) = R := ⟨_, rfl⟩
  have HR : Hid _ := hR
  rw [hR]
  clear hR
  go_enter Try.func17, Try.ntmps17
  go_wp2_with fail
  refine (refOf a ha _).mono ?_; rintro e w1 ⟨⟨c1, k1, xs, rfl, r1, v1, m1, t1, l1, f1⟩, b1⟩
  generalize decide (a < 0) = s at *
  go_wp2_with fail
  refine (refOf b hb _).mono ?_; rintro e w2 ⟨⟨c2, k2, ys, rfl, r2, v2, m2, t2, l2, f2⟩, b2⟩
  generalize decide (b < 0) = t at *
  have r1' := r1.keep b2
  have V1 : Hid _ := v1
  have V2 : Hid _ := v2
  clear r1 v1 v2 m1 m2
  go_wp2_with fail
  refine (refPlus s t c1 c2 k1 k2 xs ys _ r1' r2 t1 t2 (by omega) (by omega)).mono ?_; rintro e w3 ⟨⟨u, c3, k3, zs, rfl, r3, v3, t3, l3, f3⟩, b3⟩
  rw [V1.out, V2.out] at v3
  have V3 : Hid _ := v3
  clear v3
  go_wp2_with fail
  refine (refInt u c3 k3 zs _ r3).mono ?_; rintro e w4 ⟨rfl, b4⟩
  rw [numb_sgn, V3.out, HR.out]
  go_wp2
  go_ret
  exact ⟨rfl, btrans (btrans (btrans b1 b2) b3) b4⟩

theorem bool_ne (a b : Int) : (decide (a < 0) != decide (b < 0)) = apartB a b := rfl
set_option maxHeartbeats 1000000 in
theorem refMul (a b : Int) (ha : I64 a) (hb : I64 b) (w : World) :
    Calls Try.prog 23 #[.int .i64 a, .int .i64 b] w fun e w' => e = .returned (.int .i64 (fmul a b)) ∧ Below w.heap.size w w' := by
  obtain ⟨R, hR⟩ : ∃ R, fmul a b = R := ⟨_, rfl⟩
  have HR : Hid _ := hR
  rw [hR]
  clear hR
  go_enter Try.func23, Try.ntmps23
  go_wp2_with fail
  refine (refOf a ha _).mono ?_; rintro e w1 ⟨⟨c1, k1, xs, rfl, r1, v1, m1, t1, l1, f1⟩, b1⟩
  obtain ⟨s, hs⟩ : ∃ s, decide (a < 0) = s := ⟨_, rfl⟩
  have HS : Hid _ := hs
  rw [hs]
  clear hs v1
  go_wp2_with fail
  refine (refOf b hb _).mono ?_; rintro e w2 ⟨⟨c2, k2, ys, rfl, r2, v2, m2, t2, l2, f2⟩, b2⟩
  obtain ⟨t, hs⟩ : ∃ t, decide (b < 0) = t := ⟨_, rfl⟩
  have HT : Hid _ := hs
  rw [hs]
  clear hs v2
  have r1' := r1.keep b2
  have V1 : Hid _ := m1
  have V2 : Hid _ := m2
  clear r1 m1 m2
  go_wp2_with fail
  refine (refProduct s t c1 c2 k1 k2 xs ys _ r1' r2 (by omega) (by omega)).mono ?_; rintro e w3 ⟨⟨c3, k3, zs, rfl, r3, v3, t3, l3, f3⟩, b3⟩
  have V3 : Hid _ := v3
  clear v3
  go_wp2_with fail
  refine (refBehind (s != t) c3 k3 zs _ r3).mono ?_; rintro e w4 ⟨⟨c4, k4, us, rfl, r4, v4⟩, b4⟩
  have V4 : Hid _ := v4
  clear v4
  go_wp2_with fail
  refine (refInt (s != t) c4 k4 us _ r4).mono ?_; rintro e w5 ⟨rfl, b5⟩
  have hfin : numb ((val us : Nat) : Int) (s != t) = R := by
    rw [← HR.out, V4.out, V3.out, ← HS.out, ← HT.out]
    unfold fmul
    rw [← V1.out, ← V2.out, bool_ne, Int.natCast_ediv, Int.natCast_mul]
    rfl
  rw [hfin]
  go_wp2
  go_ret
  exact ⟨rfl, btrans (btrans (btrans (btrans b1 b2) b3) b4) b5⟩
end Go.Proofs.Ytfgbkmcbpmmfdaa
