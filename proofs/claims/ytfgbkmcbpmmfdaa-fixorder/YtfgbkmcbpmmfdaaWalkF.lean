/- Layer 1 (fix): the walks of the laws FixSquares and FixOrder. -/
import Derived.Test.YtfgbkmcbpmmfdaaFixMath2
import Derived.Test.YtfgbkmcbpmmfdaaFixK
namespace Go.Proofs.Ytfgbkmcbpmmfdaa
open Go.RowKit
set_option linter.unusedVariables false

set_option maxHeartbeats 2000000 in
theorem fixSquares_walk (n : Int) (hn : I64 n) (w : World) :
    Calls Try.prog 14 #[.int .i64 n] w fun e w' => e = .returned (.bool true) ∧ Below w.heap.size w w' := by
  have hm := and_mask24 n
  obtain ⟨m, hM⟩ : ∃ m, n % 16777216 = m := ⟨_, rfl⟩
  have m0 : 0 ≤ m := by omega
  have m1 : m < 16777216 := by omega
  rw [hM] at hm
  clear hM
  obtain ⟨q1, q2, q3, q4⟩ := square_law m0 m1
  have Q1 : Hid _ := q1; have Q3 : Hid _ := q3; have Q4 : Hid _ := q4
  clear q1 q3 q4
  have hi : I64 (m * 256) := ⟨by omega, by omega⟩
  by_cases h0 : m = 0
  · subst h0
    go_enter Try.func14, Try.ntmps14
    go_wp2_with fail
    refine (shown_any _).mono ?_; rintro e w1 ⟨rfl, b1⟩
    go_wp2_with fail
    refine (fixMul 0 0 i64_of i64_of _).mono ?_; rintro e w2 ⟨rfl, b2⟩
    rw [fmul_nought]
    go_wp2_with fail
    refine (fixSqrt 0 i64_of _).mono ?_; rintro e w3 ⟨rfl, b3⟩
    rw [show fsqrt 0 = 0 from by decide +kernel]
    go_wp2
    go_ret
    exact ⟨rfl, btrans (btrans b1 b2) b3⟩
  · have ha : (m * 256 == 0) = false := beq_eq_false_iff_ne.2 (by omega)
    have hm0 : ¬ m = 0 := h0
    clear h0
    have Q4' := Q4.out hm0
    have Q5 : Hid _ := Q4'
    have hm0' : (m == 0) = false := beq_eq_false_iff_ne.2 hm0
    clear Q4' hm0
    go_enter Try.func14, Try.ntmps14
    go_wp2_with fail
    refine (shown_any _).mono ?_; rintro e w1 ⟨rfl, b1⟩
    go_wp2_with fail
    refine (fixMul (m * 256) (m * 256) hi hi _).mono ?_; rintro e w2 ⟨rfl, b2⟩
    rw [Q1.out]
    go_wp2_with fail
    refine (fixSqrt (m * m) q2 _).mono ?_; rintro e w3 ⟨rfl, b3⟩
    rw [Q3.out]
    go_wp2_with fail
    refine (fixDiv (m * m) (m * 256) q2 hi _).mono ?_; rintro e w4 ⟨rfl, b4⟩
    rw [Q5.out]
    go_wp2
    go_ret
    exact ⟨rfl, btrans (btrans (btrans b1 b2) b3) b4⟩

theorem min_run (x y : Int) (ts : Array TypeId) (t : TypeId) (W : World) : (Builtin.min_ ts t #[.int .i64 x, .int .i64 y]).run Try.prog W = .ok (.int .i64 (min x y)) W := by
  rw [run_min_int2]; congr 2; split <;> omega
theorem max_run (x y : Int) (ts : Array TypeId) (t : TypeId) (W : World) : (Builtin.max_ ts t #[.int .i64 x, .int .i64 y]).run Try.prog W = .ok (.int .i64 (max x y)) W := by
  rw [run_max_int2]; congr 2; split <;> omega

set_option maxHeartbeats 4000000 in
theorem fixOrder_walk (a b n : Int) (ha : I64 a) (hb : I64 b) (hn : I64 n) (w : World) :
    Calls Try.prog 10 #[.int .i64 a, .int .i64 b, .int .i64 n] w fun e w' => e = .returned (.bool true) ∧ Below w.heap.size w w' := by
  have k1 := min_run a b; have k2 := max_run a b; have k3 := max_run n 0
  obtain ⟨lo, hlo⟩ : ∃ lo, min a b = lo := ⟨_, rfl⟩
  obtain ⟨hi, hhi⟩ : ∃ hi, max a b = hi := ⟨_, rfl⟩
  obtain ⟨up, hup⟩ : ∃ up, max n 0 = up := ⟨_, rfl⟩
  rw [hlo] at k1; rw [hhi] at k2; rw [hup] at k3
  have le : lo ≤ hi := by omega
  have Il : I64 lo := by obtain ⟨_, _⟩ := ha; obtain ⟨_, _⟩ := hb; exact ⟨by omega, by omega⟩
  have Ih : I64 hi := by obtain ⟨_, _⟩ := ha; obtain ⟨_, _⟩ := hb; exact ⟨by omega, by omega⟩
  have Iu : I64 up := by obtain ⟨_, _⟩ := hn; exact ⟨by omega, by omega⟩
  have u0 : 0 ≤ up := by omega
  have f1 : sat (lo + n) ≤ sat (hi + n) := sat_le (by omega)
  have f2 : sat (n - hi) ≤ sat (n - lo) := sat_le (by omega)
  have f3 := fmul_mono u0 le
  have f5 := fsqrt_mono Ih le
  have F4 : Hid (0 < up → fdiv lo up ≤ fdiv hi up) := fun h => fdiv_mono h le
  clear hlo hhi hup
  by_cases hz : up = 0
  · have ez : (up == 0) = true := beq_iff_eq.2 hz
    have E : Hid _ := hz
    clear hz
    go_enter Try.func10, Try.ntmps10
    go_wp2_with fail
    refine (shown_any _).mono ?_; rintro e w1 ⟨rfl, b1⟩
    go_wp2_with fail
    refine (addFn lo n Il hn _).mono ?_; rintro e w2 ⟨rfl, b2⟩
    go_wp2_with fail
    refine (addFn hi n Ih hn _).mono ?_; rintro e w3 ⟨rfl, b3⟩
    go_wp2_with fail
    refine (subFn n lo hn Il _).mono ?_; rintro e w4 ⟨rfl, b4⟩
    go_wp2_with fail
    refine (subFn n hi hn Ih _).mono ?_; rintro e w5 ⟨rfl, b5⟩
    go_wp2_with fail
    refine (fixMul lo up Il Iu _).mono ?_; rintro e w6 ⟨rfl, b6⟩
    go_wp2_with fail
    refine (fixMul hi up Ih Iu _).mono ?_; rintro e w7 ⟨rfl, b7⟩
    go_wp2_with fail
    refine (fixSqrt lo Il _).mono ?_; rintro e w8 ⟨rfl, b8⟩
    go_wp2_with fail
    refine (fixSqrt hi Ih _).mono ?_; rintro e w9 ⟨rfl, b9⟩
    go_wp2
    go_ret
    exact ⟨by simp, btrans (btrans (btrans (btrans (btrans (btrans (btrans (btrans b1 b2) b3) b4) b5) b6) b7) b8) b9⟩
  · have ez : (up == 0) = false := beq_eq_false_iff_ne.2 hz
    have f4 := F4.out (by omega)
    clear hz
    go_enter Try.func10, Try.ntmps10
    go_wp2_with fail
    refine (shown_any _).mono ?_; rintro e w1 ⟨rfl, b1⟩
    go_wp2_with fail
    refine (addFn lo n Il hn _).mono ?_; rintro e w2 ⟨rfl, b2⟩
    go_wp2_with fail
    refine (addFn hi n Ih hn _).mono ?_; rintro e w3 ⟨rfl, b3⟩
    go_wp2_with fail
    refine (subFn n lo hn Il _).mono ?_; rintro e w4 ⟨rfl, b4⟩
    go_wp2_with fail
    refine (subFn n hi hn Ih _).mono ?_; rintro e w5 ⟨rfl, b5⟩
    go_wp2_with fail
    refine (fixMul lo up Il Iu _).mono ?_; rintro e w6 ⟨rfl, b6⟩
    go_wp2_with fail
    refine (fixMul hi up Ih Iu _).mono ?_; rintro e w7 ⟨rfl, b7⟩
    go_wp2_with fail
    refine (fixDiv lo up Il Iu _).mono ?_; rintro e wA ⟨rfl, bA⟩
    go_wp2_with fail
    refine (fixDiv hi up Ih Iu _).mono ?_; rintro e wB ⟨rfl, bB⟩
    go_wp2_with fail
    refine (fixSqrt lo Il _).mono ?_; rintro e w8 ⟨rfl, b8⟩
    go_wp2_with fail
    refine (fixSqrt hi Ih _).mono ?_; rintro e w9 ⟨rfl, b9⟩
    go_wp2
    go_ret
    exact ⟨by simp, btrans (btrans (btrans (btrans (btrans (btrans (btrans (btrans (btrans (btrans b1 b2) b3) b4) b5) b6) b7) bA) bB) b8) b9⟩
end Go.Proofs.Ytfgbkmcbpmmfdaa
