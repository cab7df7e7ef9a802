/- Layer 1 (fix): plain facts on products, sums of products and lengths. -/
import Derived.Test.YtfgbkmcbpmmfdaaFixI
import Derived.OpenShut
namespace Go.Proofs.Ytfgbkmcbpmmfdaa
open Go.RowKit
set_option linter.unusedVariables false

theorem i64_wf {n : Int} (h : (Lit.int .i64 n).wf = true) : I64 n := by
  simp [Lit.wf, IntKind.min, IntKind.max, IntKind.signed, IntKind.bits] at h
  exact ⟨by omega, by omega⟩
structure I32 (a : Int) : Prop where
  lo : -2147483648 ≤ a
  hi : a ≤ 2147483647
theorem i32_wf {n : Int} (h : (Lit.int .i32 n).wf = true) : I32 n := by
  obtain ⟨_, _⟩ := bounds_i32 h; exact ⟨by omega, by omega⟩

theorem mag_mul (a b : Int) : (apartB a b = true → a * b = -(mag a * mag b)) ∧ (apartB a b = false → a * b = mag a * mag b) := by
  unfold apartB mag
  by_cases ha : a < 0 <;> by_cases hb : b < 0 <;> simp [ha, hb, Int.neg_mul, Int.mul_neg]
theorem dp_sub_dn (a b : Int) : dp a b - dn a b = a * b := by
  unfold dp dn
  cases h : apartB a b
  · simp [(mag_mul a b).2 h]
  · simp [(mag_mul a b).1 h]
theorem fdot_eq (a1 a2 a3 b1 b2 b3 : Int) : fdot a1 a2 a3 b1 b2 b3 =
    if a1 * b1 + a2 * b2 + a3 * b3 < 0 then sat (-(-(a1 * b1 + a2 * b2 + a3 * b3) / 65536)) else sat ((a1 * b1 + a2 * b2 + a3 * b3) / 65536) := by
  have h1 := dp_sub_dn a1 b1; have h2 := dp_sub_dn a2 b2; have h3 := dp_sub_dn a3 b3
  have hp : dpS a1 a2 a3 b1 b2 b3 - dnS a1 a2 a3 b1 b2 b3 = a1 * b1 + a2 * b2 + a3 * b3 := by unfold dpS dnS; omega
  have hn : dnS a1 a2 a3 b1 b2 b3 - dpS a1 a2 a3 b1 b2 b3 = -(a1 * b1 + a2 * b2 + a3 * b3) := by omega
  unfold fdot
  rw [numb_t, numb_f, hp, hn]
  by_cases h : a1 * b1 + a2 * b2 + a3 * b3 < 0
  · rw [if_pos (by omega), if_pos h]
  · rw [if_neg (by omega), if_neg h]
theorem fdot_whole {a1 a2 a3 b1 b2 b3 v : Int} (h : a1 * b1 + a2 * b2 + a3 * b3 = v * 65536) (hv : I64 v) : fdot a1 a2 a3 b1 b2 b3 = v := by
  rw [fdot_eq, h]
  by_cases hn : v * 65536 < 0
  · rw [if_pos hn, show -(-(v * 65536) / 65536) = v from by omega]; exact sat_id hv
  · rw [if_neg hn, show v * 65536 / 65536 = v from by omega]; exact sat_id hv
theorem mag_0 : mag 0 = 0 := rfl
theorem root_sq (n : Nat) (h : n < 18446744073709551616) : root (n * n) = n := by
  have hb : n * n < 340282366920938463463374607431768211456 := by
    have := Nat.mul_le_mul (show n ≤ 18446744073709551615 by omega) (show n ≤ 18446744073709551615 by omega); omega
  refine root_unique hb (Nat.le_refl _) ?_
  rw [Nat.add_mul, Nat.mul_add]; omega
theorem root_mag {n : Int} (h : I64 n) : ((root (mag n * mag n).toNat : Nat) : Int) = mag n := by
  have h0 := mag_nonneg n; have h1 := mag_u64 h
  obtain ⟨m, hm⟩ := Int.eq_ofNat_of_zero_le h0
  have h2 := h1.hi
  rw [hm] at h2 ⊢
  rw [mulN, Int.toNat_natCast, root_sq m (by omega)]
theorem flong_one {n : Int} (h : I64 n) : sat (mag n) = if n < sat (-n) then sat (-n) else n := by
  obtain ⟨_, _⟩ := h
  unfold mag sat
  split <;> split <;> (try split) <;> (try split) <;> (try split) <;> omega
theorem flong_x {n : Int} (h : I64 n) : flong n 0 0 = if n < sat (-n) then sat (-n) else n := by
  rw [← flong_one h]; unfold flong; rw [mag_0, Int.zero_mul, Int.add_zero, Int.add_zero, root_mag h]
theorem flong_y {n : Int} (h : I64 n) : flong 0 n 0 = if n < sat (-n) then sat (-n) else n := by
  rw [← flong_one h]; unfold flong; rw [mag_0, Int.zero_mul, Int.add_zero, Int.zero_add, root_mag h]
theorem flong_z {n : Int} (h : I64 n) : flong 0 0 n = if n < sat (-n) then sat (-n) else n := by
  rw [← flong_one h]; unfold flong; rw [mag_0, Int.zero_mul, Int.zero_add, Int.zero_add, root_mag h]
end Go.Proofs.Ytfgbkmcbpmmfdaa
