/- Layer 1 (fix): plain facts on products, sums of products and lengths. -/
import Derived.Test.YtfgbkmcbpmmfdaaFixI
import Derived.OpenShut
namespace Go.Proofs.Ytfgbkmcbpmmfdaa
open Go.RowKit
set_option linter.unusedVariables false

theorem i64_wf {n : Int} (h : (Lit.int .i64 n).wf = true) : I64 n := by
  simp [Lit.wf, IntKind.min, IntKind.max, IntKind.signed, IntKind.bits] at h
  exact ⟨by omega, by omega⟩
structure I32 (a : Int) : Prop where
  lo : -2147483648 ≤ a
  hi : a ≤ 2147483647
theorem i32_wf {n : Int} (h : (Lit.int .i32 n).wf = true) : I32 n := by
  obtain ⟨_, _⟩ := bounds_i32 h; exact ⟨by omega, by omega⟩

theorem mag_mul (a b : Int) : (apartB a b = true → a * b = -(mag a * mag b)) ∧ (apartB a b = false → a * b = mag a * mag b) := by
  unfold apartB mag
  by_cases ha : a < 0 <;> by_cases hb : b < 0 <;> simp [ha, hb, Int.neg_mul, Int.mul_neg]
theorem dp_sub_dn (a b : Int) : dp a b - dn a b = a * b := by
  unfold dp dn
  cases h : apartB a b
  · simp [(mag_mul a b).2 h]
  · simp [(mag_mul a b).1 h]
theorem fdot_eq (a1 a2 a3 b1 b2 b3 : Int) : fdot a1 a2 a3 b1 b2 b3 =
    if a1 * b1 + a2 * b2 + a3 * b3 < 0 then sat (-(-(a1 * b1 + a2 * b2 + a3 * b3) / 65536)) else sat ((a1 * b1 + a2 * b2 + a3 * b3) / 65536) := by
  have h1 := dp_sub_dn a1 b1; have h2 := dp_sub_dn a2 b2; have h3 := dp_sub_dn a3 b3
  have hp : dpS a1 a2 a3 b1 b2 b3 - dnS a1 a2 a3 b1 b2 b3 = a1 * b1 + a2 * b2 + a3 * b3 := by unfold dpS dnS; omega
  have hn : dnS a1 a2 a3 b1 b2 b3 - dpS a1 a2 a3 b1 b2 b3 = -(a1 * b1 + a2 * b2 + a3 * b3) := by omega
  unfold fdot
  rw [numb_t, numb_f, hp, hn]
  by_cases h : a1 * b1 + a2 * b2 + a3 * b3 < 0
  · rw [if_pos (by omega), if_pos h]
  · rw [if_neg (by omega), if_neg h]
theorem fdot_whole {a1 a2 a3 b1 b2 b3 v : Int} (h : a1 * b1 + a2 * b2 + a3 * b3 = v * 65536) (hv : I64 v) : fdot a1 a2 a3 b1 b2 b3 = v := by
  rw [fdot_eq, h]
  by_cases hn : v * 65536 < 0
  · rw [if_pos hn, show -(-(v * 65536) / 65536) = v from by omega]; exact sat_id hv
  · rw [if_neg hn, show v * 65536 / 65536 = v from by omega]; exact sat_id hv
theorem mag_0 : mag 0 = 0 := rfl
theorem root_sq (n : Nat) (h : n < 18446744073709551616) : root (n * n) = n := by
  have hb : n * n < 340282366920938463463374607431768211456 := by
    have := Nat.mul_le_mul (show n ≤ 18446744073709551615 by omega) (show n ≤ 18446744073709551615 by omega); omega
  refine root_unique hb (Nat.le_refl _) ?_
  rw [Nat.add_mul, Nat.mul_add]; omega
theorem root_mag {n : Int} (h : I64 n) : ((root (mag n * mag n).toNat : Nat) : Int) = mag n := by
  have h0 := mag_nonneg n; have h1 := mag_u64 h
  obtain ⟨m, hm⟩ := Int.eq_ofNat_of_zero_le h0
  have h2 := h1.hi
  rw [hm] at h2 ⊢
  rw [mulN, Int.toNat_natCast, root_sq m (by omega)]
theorem flong_one {n : Int} (h : I64 n) : sat (mag n) = if n < sat (-n) then sat (-n) else n := by
  obtain ⟨_, _⟩ := h
  unfold mag sat
  split <;> split <;> (try split) <;> (try split) <;> (try split) <;> omega
theorem flong_x {n : Int} (h : I64 n) : flong n 0 0 = if n < sat (-n) then sat (-n) else n := by
  rw [← flong_one h]; unfold flong; rw [mag_0, Int.zero_mul, Int.add_zero, Int.add_zero, root_mag h]
theorem flong_y {n : Int} (h : I64 n) : flong 0 n 0 = if n < sat (-n) then sat (-n) else n := by
  rw [← flong_one h]; unfold flong; rw [mag_0, Int.zero_mul, Int.add_zero, Int.zero_add, root_mag h]
theorem flong_z {n : Int} (h : I64 n) : flong 0 0 n = if n < sat (-n) then sat (-n) else n := by
  rw [← flong_one h]; unfold flong; rw [mag_0, Int.zero_mul, Int.zero_add, Int.zero_add, root_mag h]

/-- Of a mask of sixty bits. -/
theorem and_mask60 (a : Int) : bits BinOp.and IntKind.i64 a 1152921504606846975 = a % 1152921504606846976 := by
  have h127 : (BitVec.ofInt 64 1152921504606846975).toNat = 2 ^ 60 - 1 := by decide
  have key : (BitVec.ofInt 64 a &&& BitVec.ofInt 64 1152921504606846975).toNat = (a % ((2 ^ 64 : Nat) : Int)).toNat % 2 ^ 60 := by
    rw [BitVec.toNat_and, BitVec.toNat_ofInt, h127, Nat.and_two_pow_sub_one_eq_mod]
  show IntKind.i64.wrap ((BitVec.ofInt 64 a &&& BitVec.ofInt 64 1152921504606846975).toNat : Int) = _
  rw [key, IntKind.wrap_i64]
  omega

/-- A root's square, by halves. -/
theorem halves (r : Int) : r * (r / 65536) + r * (r % 65536) / 65536 = r * r / 65536 := by
  have e : r * r = r * (r % 65536) + 65536 * (r * (r / 65536)) := by
    have h : r = r % 65536 + 65536 * (r / 65536) := by omega
    calc r * r = r * (r % 65536 + 65536 * (r / 65536)) := by rw [← h]
      _ = r * (r % 65536) + r * (65536 * (r / 65536)) := Int.mul_add _ _ _
      _ = _ := by rw [← Int.mul_assoc, Int.mul_comm r 65536, Int.mul_assoc]
  rw [e, Int.add_mul_ediv_left _ _ (by omega)]; omega
/-- What the law asks of a root of a number of sixty bits. -/
theorem root_law {a r : Int} (h0 : 0 ≤ a) (h1 : a < 1152921504606846976) (hr : r = fsqrt a) :
    0 ≤ r ∧ r < 274877906944 ∧ r * (r / 65536) + r * (r % 65536) / 65536 ≤ a ∧ a ≤ (r + 1) * ((r + 1) / 65536) + (r + 1) * ((r + 1) % 65536) / 65536 ∧
    0 ≤ r * (r / 65536) ∧ r * (r / 65536) ≤ 1152921504606846976 ∧ 0 ≤ r * (r % 65536) ∧ r * (r % 65536) ≤ 18014398509481984 ∧
    0 ≤ (r + 1) * ((r + 1) / 65536) ∧ (r + 1) * ((r + 1) / 65536) ≤ 1152921504606846976 ∧ 0 ≤ (r + 1) * ((r + 1) % 65536) ∧ (r + 1) * ((r + 1) % 65536) ≤ 18014398509481984 := by
  unfold fsqrt at hr
  rw [if_neg (by omega)] at hr
  obtain ⟨s1, s2, _⟩ := root_spec (n := (a * 65536).toNat) (by omega)
  generalize root (a * 65536).toNat = k at *
  subst hr
  have hk : k < 274877906944 := sq_lt (by omega)
  have e1 : (k : Int) * k ≤ a * 65536 := by rw [mulN]; omega
  have e2 : a * 65536 < ((k : Int) + 1) * (k + 1) := by
    have : ((k : Int) + 1) * (k + 1) = (((k + 1) * (k + 1) : Nat) : Int) := by rw [← mulN]; simp
    rw [this]; omega
  have b1 : (k : Int) * (k / 65536) ≤ 274877906944 * 4194304 := Int.mul_le_mul (by omega) (by omega) (by omega) (by omega)
  have b2 : (k : Int) * (k % 65536) ≤ 274877906944 * 65536 := Int.mul_le_mul (by omega) (by omega) (by omega) (by omega)
  have b3 : ((k : Int) + 1) * ((k + 1) / 65536) ≤ 274877906944 * 4194304 := Int.mul_le_mul (by omega) (by omega) (by omega) (by omega)
  have b4 : ((k : Int) + 1) * ((k + 1) % 65536) ≤ 274877906944 * 65536 := Int.mul_le_mul (by omega) (by omega) (by omega) (by omega)
  have p1 : 0 ≤ (k : Int) * (k / 65536) := Int.mul_nonneg (by omega) (by omega)
  have p2 : 0 ≤ (k : Int) * (k % 65536) := Int.mul_nonneg (by omega) (by omega)
  have p3 : 0 ≤ ((k : Int) + 1) * ((k + 1) / 65536) := Int.mul_nonneg (by omega) (by omega)
  have p4 : 0 ≤ ((k : Int) + 1) * ((k + 1) % 65536) := Int.mul_nonneg (by omega) (by omega)
  refine ⟨by omega, by omega, ?_, ?_, p1, by omega, p2, by omega, p3, by omega, p4, by omega⟩
  · rw [halves]; omega
  · rw [halves]; omega

/-- Two vectors are the same just if all axes are. -/
theorem vecEq_run (c1 c2 c3 a1 a2 a3 : Int) (q : Bool) (hq : q = decide (c1 = a1 ∧ c2 = a2 ∧ c3 = a3)) (W : World) :
    (binOp .eql 27 (.agg #[.int .i64 c1, .int .i64 c2, .int .i64 c3]) (.agg #[.int .i64 a1, .int .i64 a2, .int .i64 a3])).run Try.prog W = .ok (.bool q) W := by
  subst hq
  by_cases e1 : c1 = a1 <;> by_cases e2 : c2 = a2 <;> by_cases e3 : c3 = a3 <;> simp [go_sem, e1, e2, e3]
/-- The greater of two, under a name. -/
def mx (x y : Int) : Int := if y > x then y else x
theorem mx_neg (x : Int) : mx x (-x) = mag x := by unfold mx mag; split <;> split <;> omega
theorem flong_small {x y z : Int} (hx : I32 x) (hy : I32 y) (hz : I32 z) : flong x y z = (root (mag x * mag x + mag y * mag y + mag z * mag z).toNat : Nat) ∧
    (∃ k : Nat, flong x y z = k ∧ (k : Int) * k ≤ mag x * mag x + mag y * mag y + mag z * mag z ∧ mag x * mag x + mag y * mag y + mag z * mag z < ((k : Int) + 1) * (k + 1) ∧ k < 4294967296) := by
  have m1 : 0 ≤ mag x ∧ mag x ≤ 2147483648 := by obtain ⟨_, _⟩ := hx; unfold mag; split <;> omega
  have m2 : 0 ≤ mag y ∧ mag y ≤ 2147483648 := by obtain ⟨_, _⟩ := hy; unfold mag; split <;> omega
  have m3 : 0 ≤ mag z ∧ mag z ≤ 2147483648 := by obtain ⟨_, _⟩ := hz; unfold mag; split <;> omega
  have q1 : mag x * mag x ≤ 2147483648 * 2147483648 := Int.mul_le_mul m1.2 m1.2 m1.1 (by omega)
  have q2 : mag y * mag y ≤ 2147483648 * 2147483648 := Int.mul_le_mul m2.2 m2.2 m2.1 (by omega)
  have q3 : mag z * mag z ≤ 2147483648 * 2147483648 := Int.mul_le_mul m3.2 m3.2 m3.1 (by omega)
  have p1 := Int.mul_nonneg m1.1 m1.1
  have p2 := Int.mul_nonneg m2.1 m2.1
  have p3 := Int.mul_nonneg m3.1 m3.1
  unfold flong
  generalize hN : mag x * mag x + mag y * mag y + mag z * mag z = N at *
  obtain ⟨s1, s2, _⟩ := root_spec (n := N.toNat) (by omega)
  generalize root N.toNat = k at *
  have hk : k < 4294967296 := sq_lt (by omega)
  have e : sat (k : Int) = k := sat_id ⟨by omega, by omega⟩
  refine ⟨e, k, e, by rw [mulN]; omega, ?_, hk⟩
  have : ((k : Int) + 1) * (k + 1) = (((k + 1) * (k + 1) : Nat) : Int) := by rw [← mulN]; simp
  rw [this]; omega
theorem isq_lt {a b : Int} (hb : 0 ≤ b) (h : a * a < b * b) (ha : 0 ≤ a) : a < b := by
  apply Int.lt_of_not_ge
  intro hle
  have := Int.mul_le_mul hle hle hb ha
  omega
/-- What the law asks of a length. -/
theorem long_law {x y z n : Int} (hx : I32 x) (hy : I32 y) (hz : I32 z) (hn : n = flong x y z) :
    0 ≤ n ∧ n ≤ 4294967296 ∧ n ≤ mag x + mag y + mag z ∧ mag x ≤ n ∧ mag y ≤ n ∧ mag z ≤ n := by
  obtain ⟨-, k, hk, s1, s2, s3⟩ := flong_small hx hy hz
  rw [hk] at hn
  clear hk
  subst hn
  have a0 := mag_nonneg x; have b0 := mag_nonneg y; have c0 := mag_nonneg z
  have p1 := Int.mul_nonneg a0 b0; have p2 := Int.mul_nonneg a0 c0; have p3 := Int.mul_nonneg b0 c0
  have q1 := Int.mul_nonneg a0 a0; have q2 := Int.mul_nonneg b0 b0; have q3 := Int.mul_nonneg c0 c0
  have e : (mag x + mag y + mag z) * (mag x + mag y + mag z) = mag x * mag x + mag y * mag y + mag z * mag z + 2 * (mag x * mag y) + 2 * (mag x * mag z) + 2 * (mag y * mag z) := by
    rw [Int.add_mul, Int.add_mul, Int.mul_add, Int.mul_add, Int.mul_add, Int.mul_add, Int.mul_add, Int.mul_add, Int.mul_comm (mag y) (mag x), Int.mul_comm (mag z) (mag x), Int.mul_comm (mag z) (mag y)]; omega
  have e2 : (mag x + mag y + mag z + 1) * (mag x + mag y + mag z + 1) = (mag x + mag y + mag z) * (mag x + mag y + mag z) + 2 * (mag x + mag y + mag z) + 1 := by
    rw [Int.add_mul, Int.mul_add]; omega
  refine ⟨by omega, by omega, ?_, ?_, ?_, ?_⟩
  · have : (k : Int) < mag x + mag y + mag z + 1 := isq_lt (by omega) (by omega) (by omega)
    omega
  · have : mag x < (k : Int) + 1 := isq_lt (by omega) (by omega) a0
    omega
  · have : mag y < (k : Int) + 1 := isq_lt (by omega) (by omega) b0
    omega
  · have : mag z < (k : Int) + 1 := isq_lt (by omega) (by omega) c0
    omega
theorem mag_neg_eq (x : Int) : mag (-x) = mag x := by unfold mag; split <;> split <;> omega
theorem flong_turn (x y z : Int) : flong (-x) z y = flong x y z := by
  unfold flong; rw [mag_neg_eq]
  rw [show mag x * mag x + mag z * mag z + mag y * mag y = mag x * mag x + mag y * mag y + mag z * mag z from by omega]
end Go.Proofs.Ytfgbkmcbpmmfdaa
