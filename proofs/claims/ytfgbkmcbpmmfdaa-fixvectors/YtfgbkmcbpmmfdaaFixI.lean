/- Layer 1 (fix): Div by 0; what must be in any case (shown). -/
import Derived.Test.YtfgbkmcbpmmfdaaFixH
namespace Go.Proofs.Ytfgbkmcbpmmfdaa
open Go.RowKit
set_option linter.unusedVariables false

theorem fixDivZero (a : Int) (ha : I64 a) (w : World) :
    Calls Try.prog 24 #[.int .i64 a, .int .i64 0] w fun e w' => e = .returned (.int .i64 (fdiv a 0)) ∧ Below w.heap.size w w' := by
  by_cases h0 : a = 0
  · subst h0
    go_enter Try.func24, Try.ntmps24
    go_wp2
    go_ret
    exact ⟨rfl, Below.refl _ _⟩
  · have hb : (a == 0) = false := beq_eq_false_iff_ne.2 h0
    have hf : fdiv a 0 = fend (apartB a 0) := by
      unfold fdiv apartB fend; rw [if_neg h0, if_pos rfl]; simp
    rw [hf]
    have m0 : mag 0 = 0 := rfl
    have hp := hi64_u64 (mul_u128 (mag_u64 ha) u64_one16)
    have hge := hp.lo
    clear h0 hf
    go_enter Try.func24, Try.ntmps24
    go_wp2_with fail
    refine (fixSize a ha _).mono ?_; rintro e w' ⟨rfl, rfl⟩
    go_wp2_with fail
    refine (fixProduct _ _ (mag_u64 ha) u64_one16 _).mono ?_; rintro e w1 ⟨rfl, b1⟩
    go_wp2_with fail
    refine (fixSize 0 i64_0 _).mono ?_; rintro e w2 ⟨rfl, hw2⟩
    rw [m0]
    rw [hw2]
    clear hw2
    go_wp2_with fail
    refine (fixApart a 0 _).mono ?_; rintro e w2 ⟨rfl, hw2⟩
    rw [hw2]
    clear hw2
    go_wp2_with fail
    refine (fixEnd _ _).mono ?_; rintro e w2 ⟨rfl, hw2⟩
    rw [hw2]
    clear hw2
    go_wp2
    go_ret
    exact ⟨rfl, b1.alloc b1.size _⟩

theorem i64_of {a : Int} (h1 : -9223372036854775808 ≤ a := by omega) (h2 : a ≤ 9223372036854775807 := by omega) : I64 a := ⟨h1, h2⟩
theorem shown_any (w : World) : Calls Try.prog 15 #[] w fun e w' => e = .returned (.bool true) ∧ Below w.heap.size w w' := by
  go_enter Try.func15, Try.ntmps15
  go_wp2_with fail
  refine (fixMul 98304 163840 i64_of i64_of _).mono ?_; rintro e w1 ⟨rfl, b1⟩
  rw [show fmul 98304 163840 = 245760 from by decide +kernel]
  go_wp2_with fail
  refine (fixSqrt 131072 i64_of _).mono ?_; rintro e w2 ⟨rfl, b2⟩
  rw [show fsqrt 131072 = 92681 from by decide +kernel]
  go_wp2_with fail
  refine (addFn 9223372036854775807 1 i64_of i64_of _).mono ?_; rintro e w3 ⟨rfl, b3⟩
  rw [show sat (9223372036854775807 + 1) = 9223372036854775807 from by decide +kernel]
  go_wp2_with fail
  refine (fixNeg (-9223372036854775808) i64_of _).mono ?_; rintro e w4 ⟨rfl, hw4⟩
  rw [hw4, show sat (-(-9223372036854775808)) = 9223372036854775807 from by decide +kernel]
  clear hw4
  go_wp2_with fail
  refine (fixDivZero 1 i64_of _).mono ?_; rintro e w5 ⟨rfl, b5⟩
  rw [show fdiv 1 0 = 9223372036854775807 from by decide +kernel]
  go_wp2_with fail
  refine (fixDivZero (-1) i64_of _).mono ?_; rintro e w6 ⟨rfl, b6⟩
  rw [show fdiv (-1) 0 = -9223372036854775808 from by decide +kernel]
  go_wp2_with fail
  refine (fixDivZero 0 i64_of _).mono ?_; rintro e w7 ⟨rfl, b7⟩
  rw [show fdiv 0 0 = 0 from by decide +kernel]
  go_wp2_with fail
  refine (fixLong 3 4 0 i64_of i64_of i64_of _).mono ?_; rintro e w8 ⟨rfl, b8⟩
  rw [show flong 3 4 0 = 5 from by decide +kernel]
  go_wp2
  go_ret
  exact ⟨rfl, btrans (btrans (btrans (btrans (btrans (btrans b1 b2) b3) b5) b6) b7) b8⟩
end Go.Proofs.Ytfgbkmcbpmmfdaa
