/- Layer 3 (bits): the model's bit operations as plain ones. -/
import Derived.Test.YtkmiogaklmgnkaaBtM
namespace Go.Proofs.Ytkmiogaklmgnkaa
set_option linter.unusedVariables false

theorem wrap_u64 {n : Nat} (h : n < 2 ^ 64) : IntKind.u64.wrap (n : Int) = (n : Int) := by
  unfold IntKind.wrap
  simp only [IntKind.signed, Bool.false_and, IntKind.bits]
  rw [if_neg (by simp)]
  omega
theorem wrap_u8 {n : Nat} (h : n < 2 ^ 8) : IntKind.u8.wrap (n : Int) = (n : Int) := by
  unfold IntKind.wrap
  simp only [IntKind.signed, Bool.false_and, IntKind.bits]
  rw [if_neg (by simp)]
  omega
theorem wrap_i64 {n : Int} (h0 : -(2 ^ 63) ≤ n) (h : n < 2 ^ 63) : IntKind.i64.wrap n = n := by
  unfold IntKind.wrap
  simp only [IntKind.signed, IntKind.bits, Bool.true_and]
  split <;> rename_i hc <;> simp at hc <;> omega
theorem bits_and_u64 (a b : Nat) : bits .and .u64 (a : Int) (b : Int) = (((a % 2 ^ 64) &&& (b % 2 ^ 64) : Nat) : Int) := by
  have e : bits .and .u64 (a : Int) (b : Int) = IntKind.u64.wrap (((BitVec.ofInt 64 (a : Int)) &&& (BitVec.ofInt 64 (b : Int))).toNat : Int) := rfl
  rw [e, BitVec.ofInt_natCast, BitVec.ofInt_natCast, BitVec.toNat_and, BitVec.toNat_ofNat, BitVec.toNat_ofNat, wrap_u64]
  exact Nat.lt_of_le_of_lt Nat.and_le_left (Nat.mod_lt _ (by decide))
theorem bits_or_u64 (a b : Nat) : bits .or .u64 (a : Int) (b : Int) = (((a % 2 ^ 64) ||| (b % 2 ^ 64) : Nat) : Int) := by
  have e : bits .or .u64 (a : Int) (b : Int) = IntKind.u64.wrap (((BitVec.ofInt 64 (a : Int)) ||| (BitVec.ofInt 64 (b : Int))).toNat : Int) := rfl
  rw [e, BitVec.ofInt_natCast, BitVec.ofInt_natCast, BitVec.toNat_or, BitVec.toNat_ofNat, BitVec.toNat_ofNat, wrap_u64]
  exact Nat.or_lt_two_pow (Nat.mod_lt _ (by decide)) (Nat.mod_lt _ (by decide))
theorem bits_and_u8 (a b : Nat) : bits .and .u8 (a : Int) (b : Int) = (((a % 2 ^ 8) &&& (b % 2 ^ 8) : Nat) : Int) := by
  have e : bits .and .u8 (a : Int) (b : Int) = IntKind.u8.wrap (((BitVec.ofInt 8 (a : Int)) &&& (BitVec.ofInt 8 (b : Int))).toNat : Int) := rfl
  rw [e, BitVec.ofInt_natCast, BitVec.ofInt_natCast, BitVec.toNat_and, BitVec.toNat_ofNat, BitVec.toNat_ofNat, wrap_u8]
  exact Nat.lt_of_le_of_lt Nat.and_le_left (Nat.mod_lt _ (by decide))
theorem bits_or_u8 (a b : Nat) : bits .or .u8 (a : Int) (b : Int) = (((a % 2 ^ 8) ||| (b % 2 ^ 8) : Nat) : Int) := by
  have e : bits .or .u8 (a : Int) (b : Int) = IntKind.u8.wrap (((BitVec.ofInt 8 (a : Int)) ||| (BitVec.ofInt 8 (b : Int))).toNat : Int) := rfl
  rw [e, BitVec.ofInt_natCast, BitVec.ofInt_natCast, BitVec.toNat_or, BitVec.toNat_ofNat, BitVec.toNat_ofNat, wrap_u8]
  exact Nat.or_lt_two_pow (Nat.mod_lt _ (by decide)) (Nat.mod_lt _ (by decide))
theorem testBit_toNat (x i : Nat) : (x.testBit i).toNat = x / 2 ^ i % 2 := Nat.toNat_testBit x i
theorem div_pow_cast (x i : Nat) : (x : Int) / 2 ^ i = ((x / 2 ^ i : Nat) : Int) := by
  rw [Int.natCast_ediv, Int.natCast_pow]; rfl
theorem shr_and_u64 (x i : Nat) : bits .and .u64 ((x : Int) / 2 ^ i) 1 = ((x.testBit i).toNat : Int) := by
  rw [div_pow_cast, show (1 : Int) = ((1 : Nat) : Int) from rfl, bits_and_u64, testBit_toNat, show (1 : Nat) % 2 ^ 64 = 1 from rfl, Nat.and_one_is_mod]
  congr 1; omega
theorem shr_and_u8 (x i : Nat) : bits .and .u8 ((x : Int) / 2 ^ i) 1 = ((x.testBit i).toNat : Int) := by
  rw [div_pow_cast, show (1 : Int) = ((1 : Nat) : Int) from rfl, bits_and_u8, testBit_toNat, show (1 : Nat) % 2 ^ 8 = 1 from rfl, Nat.and_one_is_mod]
  congr 1; omega
theorem low_bit (x i : Nat) : bits .and .u64 ((x : Int) / 2 ^ i) 1 % 256 = ((x.testBit i).toNat : Int) := by
  rw [shr_and_u64]; have : (x.testBit i).toNat ≤ 1 := Bool.toNat_le _; omega
theorem put_bit {y f : Nat} {b : Bool} (hy : y < 256) (hf : f < 8) : bits .or .u8 (y : Int) (((b.toNat : Int) * 2 ^ f) % 256) = ((setBit y f b : Nat) : Int) := by
  have h1 : b.toNat ≤ 1 := b.toNat_le
  have h2 : 2 ^ f ≤ 2 ^ 7 := Nat.pow_le_pow_right (by decide) (by omega)
  have h3 : b.toNat * 2 ^ f < 256 := by
    have := Nat.mul_le_mul h1 h2; omega
  have e : ((b.toNat : Int) * 2 ^ f) % 256 = ((b.toNat * 2 ^ f : Nat) : Int) := by
    rw [Int.natCast_mul, Int.natCast_pow]
    have e2 : ((b.toNat : Int) * 2 ^ f) = ((b.toNat * 2 ^ f : Nat) : Int) := by rw [Int.natCast_mul, Int.natCast_pow]; rfl
    show _ % 256 = (b.toNat : Int) * 2 ^ f
    rw [e2]; omega
  rw [e, bits_or_u8, setBit, Nat.shiftLeft_eq, Nat.mod_eq_of_lt hy, Nat.mod_eq_of_lt h3]
theorem put_bit' {y f : Nat} {b : Bool} (hy : y < 256) (hf : f < 8) : bits .or .u8 (y : Int) (IntKind.u8.wrap ((b.toNat : Int) * 2 ^ f)) = ((setBit y f b : Nat) : Int) := by
  rw [← put_bit hy hf]
  unfold IntKind.wrap
  simp only [IntKind.signed, Bool.false_and, IntKind.bits]
  rw [if_neg (by simp)]
  rfl
theorem get_bit {n : Nat} {b : Bool} (hn : n < 2 ^ 63) : bits .or .u64 ((n : Int) * 2) (b.toNat : Int) = ((2 * n + b.toNat : Nat) : Int) := by
  have h1 : b.toNat ≤ 1 := b.toNat_le
  rw [show (n : Int) * 2 = ((2 * n : Nat) : Int) by omega, bits_or_u64, Nat.mod_eq_of_lt (by omega), Nat.mod_eq_of_lt (by omega)]
  have := Nat.two_pow_add_eq_or_of_lt (i := 1) (b := b.toNat) (by omega) n
  rw [← this]
end Go.Proofs.Ytkmiogaklmgnkaa
