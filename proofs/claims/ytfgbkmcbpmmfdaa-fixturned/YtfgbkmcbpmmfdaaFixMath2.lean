/- Layer 1 (fix): plain facts on products, quotients and roots, for the laws on numbers. -/
import Derived.Test.YtfgbkmcbpmmfdaaFixMath
namespace Go.Proofs.Ytfgbkmcbpmmfdaa
open Go.RowKit
set_option linter.unusedVariables false

theorem tdiv_cases (x d : Int) (hd : 0 < d) : (0 ≤ x ∧ x.tdiv d = x / d) ∨ (x < 0 ∧ x.tdiv d = -((-x) / d)) := by
  by_cases h : 0 ≤ x
  · exact .inl ⟨h, Int.tdiv_eq_ediv_of_nonneg h⟩
  · refine .inr ⟨by omega, ?_⟩
    have e := Int.neg_tdiv (-x) d
    rw [Int.neg_neg] at e
    rw [e, Int.tdiv_eq_ediv_of_nonneg (by omega)]
theorem numb_zero (b : Bool) : numb 0 b = 0 := by cases b <;> rfl
theorem mag_abs (a : Int) : (a < 0 ∧ mag a = -a) ∨ (0 ≤ a ∧ mag a = a) := by unfold mag; split <;> omega
/-- Mul is the product, cut. -/
theorem fmul_eq (a b : Int) : fmul a b = sat ((a * b).tdiv 65536) := by
  unfold fmul
  have hm := mag_mul a b
  have p0 : 0 ≤ mag a * mag b := Int.mul_nonneg (mag_nonneg a) (mag_nonneg b)
  cases h : apartB a b
  · have e := hm.2 h
    rw [numb_f, e, Int.tdiv_eq_ediv_of_nonneg p0]
  · have e := hm.1 h
    rw [numb_t, e, Int.neg_tdiv, Int.tdiv_eq_ediv_of_nonneg p0]
theorem fmul_comm (a b : Int) : fmul a b = fmul b a := by rw [fmul_eq, fmul_eq, Int.mul_comm]
/-- Div is the quotient, cut. -/
theorem fdiv_eq {a b : Int} (hb : b ≠ 0) : fdiv a b = sat ((a * 65536).tdiv b) := by
  unfold fdiv
  by_cases ha : a = 0
  · subst ha; rw [if_pos rfl, Int.zero_mul, Int.zero_tdiv]; rfl
  rw [if_neg ha, if_neg hb]
  rcases mag_abs a with ⟨ha', ea⟩ | ⟨ha', ea⟩ <;> rcases mag_abs b with ⟨hb', eb⟩ | ⟨hb', eb⟩ <;> rw [ea, eb]
  · rw [show apartB a b = false from by unfold apartB; simp [ha', hb'], numb_f, show a * 65536 = -(-a * 65536) from by omega, show b = -(-b) from by omega, Int.neg_tdiv, Int.tdiv_neg, Int.neg_neg, Int.tdiv_eq_ediv_of_nonneg (by omega), Int.neg_neg]
  · rw [show apartB a b = true from by unfold apartB; simp [ha']; omega, numb_t, show a * 65536 = -(-a * 65536) from by omega, Int.neg_tdiv, Int.tdiv_eq_ediv_of_nonneg (by omega)]
  · rw [show apartB a b = true from by unfold apartB; simp [hb']; omega, numb_t, show b = -(-b) from by omega, Int.tdiv_neg, Int.tdiv_eq_ediv_of_nonneg (by omega), Int.neg_neg]
  · rw [show apartB a b = false from by unfold apartB; simp; omega, numb_f, Int.tdiv_eq_ediv_of_nonneg (by omega)]
theorem tdiv_mono {x y d : Int} (hd : 0 < d) (h : x ≤ y) : x.tdiv d ≤ y.tdiv d := by
  rcases tdiv_cases x d hd with ⟨hx, ex⟩ | ⟨hx, ex⟩ <;> rcases tdiv_cases y d hd with ⟨hy, ey⟩ | ⟨hy, ey⟩ <;> rw [ex, ey]
  · exact Int.ediv_le_ediv hd h
  · omega
  · have := Int.ediv_nonneg hy (Int.le_of_lt hd); have := Int.ediv_nonneg (show 0 ≤ -x by omega) (Int.le_of_lt hd); omega
  · have := Int.ediv_le_ediv hd (show -y ≤ -x by omega); omega
theorem fmul_mono {x y u : Int} (hu : 0 ≤ u) (h : x ≤ y) : fmul x u ≤ fmul y u := by
  rw [fmul_eq, fmul_eq]; exact sat_le (tdiv_mono (by omega) (Int.mul_le_mul_of_nonneg_right h hu))
theorem fdiv_mono {x y u : Int} (hu : 0 < u) (h : x ≤ y) : fdiv x u ≤ fdiv y u := by
  rw [fdiv_eq (by omega), fdiv_eq (by omega)]; exact sat_le (tdiv_mono hu (by omega))
theorem fsqrt_mono {x y : Int} (hy : I64 y) (h : x ≤ y) : fsqrt x ≤ fsqrt y := by
  unfold fsqrt
  by_cases hx : x < 0
  · rw [if_pos hx]
    split
    · omega
    · exact Int.natCast_nonneg _
  · rw [if_neg hx, if_neg (by omega)]
    have := root_mono (n := (x * 65536).toNat) (m := (y * 65536).toNat) (by have := hy.hi; omega) (by omega)
    exact Int.ofNat_le.2 this
theorem fmul_one {a : Int} (h : I64 a) : fmul a 65536 = a := by rw [fmul_eq, Int.mul_tdiv_cancel _ (by decide), sat_id h]
theorem fmul_nought (a : Int) : fmul a 0 = 0 := by rw [fmul_eq, Int.mul_zero]; rfl
theorem fdiv_one {a : Int} (h : I64 a) : fdiv a 65536 = a := by rw [fdiv_eq (by decide), Int.mul_tdiv_cancel _ (by decide), sat_id h]
theorem fdot_comm (a1 a2 a3 b1 b2 b3 : Int) : fdot a1 a2 a3 b1 b2 b3 = fdot b1 b2 b3 a1 a2 a3 := by
  rw [fdot_eq, fdot_eq, Int.mul_comm a1, Int.mul_comm a2, Int.mul_comm a3]
theorem fdot_nought (a1 a2 a3 : Int) : fdot a1 a2 a3 0 0 0 = 0 := by rw [fdot_eq, Int.mul_zero, Int.mul_zero, Int.mul_zero]; rfl

/-- A square of a number in parts of 256. -/
theorem square_law {m : Int} (h0 : 0 ≤ m) (h1 : m < 16777216) : fmul (m * 256) (m * 256) = m * m ∧ I64 (m * m) ∧ fsqrt (m * m) = m * 256 ∧ (m ≠ 0 → fdiv (m * m) (m * 256) = m * 256) := by
  have q0 : 0 ≤ m * m := Int.mul_nonneg h0 h0
  have q1 : m * m ≤ 16777215 * 16777215 := Int.mul_le_mul (by omega) (by omega) h0 (by omega)
  have hi : I64 (m * m) := ⟨by omega, by omega⟩
  have e : m * 256 * (m * 256) = m * m * 65536 := by rw [Int.mul_assoc, Int.mul_left_comm 256, ← Int.mul_assoc]; omega
  refine ⟨by rw [fmul_eq, e, Int.mul_tdiv_cancel _ (by decide), sat_id hi], hi, ?_, fun hm => ?_⟩
  · unfold fsqrt
    rw [if_neg (by omega), ← e]
    have hn : (m * 256 * (m * 256)).toNat = (m * 256).toNat * (m * 256).toNat := by
      obtain ⟨k, rfl⟩ := Int.eq_ofNat_of_zero_le h0
      rw [show (k : Int) * 256 = ((k * 256 : Nat) : Int) from by omega, mulN, Int.toNat_natCast, Int.toNat_natCast]
    rw [hn, root_sq _ (by omega)]; omega
  · rw [fdiv_eq (by omega), ← e, Int.mul_tdiv_cancel _ (by omega), sat_id ⟨by omega, by omega⟩]
/-- Of a mask of twenty-four bits. -/
theorem and_mask24 (a : Int) : bits BinOp.and IntKind.i64 a 16777215 = a % 16777216 := by
  have h127 : (BitVec.ofInt 64 16777215).toNat = 2 ^ 24 - 1 := by decide
  have key : (BitVec.ofInt 64 a &&& BitVec.ofInt 64 16777215).toNat = (a % ((2 ^ 64 : Nat) : Int)).toNat % 2 ^ 24 := by
    rw [BitVec.toNat_and, BitVec.toNat_ofInt, h127, Nat.and_two_pow_sub_one_eq_mod]
  show IntKind.i64.wrap ((BitVec.ofInt 64 a &&& BitVec.ofInt 64 16777215).toNat : Int) = _
  rw [key, IntKind.wrap_i64]
  omega

/-- A sign goes through. -/
theorem sign_mul {a b : Int} : fmul (-a) (-b) = fmul a b ∧ (fmul (-a) b = sat (-fmul a b) ∨ fmul a b = 9223372036854775807 ∨ fmul a b = -9223372036854775808) := by
  rw [fmul_eq, fmul_eq, fmul_eq, Int.neg_mul_neg, Int.neg_mul, Int.neg_tdiv]
  refine ⟨rfl, ?_⟩
  unfold sat
  split <;> (try split) <;> (try split) <;> (try split) <;> omega
theorem sign_div {a b : Int} (hb : b ≠ 0) : fdiv (-a) (-b) = fdiv a b ∧ (fdiv (-a) b = sat (-fdiv a b) ∨ fdiv a b = 9223372036854775807 ∨ fdiv a b = -9223372036854775808) := by
  rw [fdiv_eq hb, fdiv_eq hb, fdiv_eq (show -b ≠ 0 by omega), Int.neg_mul, Int.neg_tdiv, Int.neg_tdiv, Int.tdiv_neg, Int.neg_neg]
  refine ⟨rfl, ?_⟩
  generalize (a * 65536).tdiv b = q
  unfold sat
  split <;> (try split) <;> (try split) <;> (try split) <;> omega
theorem sign_div0 (a : Int) : fdiv (-a) 0 = sat (-fdiv a 0) ∨ fdiv a 0 = 9223372036854775807 ∨ fdiv a 0 = -9223372036854775808 := by
  unfold fdiv
  by_cases h : a = 0
  · subst h; exact .inl rfl
  · rw [if_neg h, if_pos rfl]
    by_cases h' : a < 0
    · rw [if_pos h']; exact .inr (.inr rfl)
    · rw [if_neg h']; exact .inr (.inl rfl)
end Go.Proofs.Ytfgbkmcbpmmfdaa
