/- Plain numbers for layer 1 (fix). -/
import Derived.WalkKit
import Derived.Lib.Mul64
namespace Go.Proofs.Ythcmcjklhcfenaa
open Go.RowKit
set_option linter.unusedVariables false

/-- Cut at the two ends of int64. -/
def sat (x : Int) : Int := if 9223372036854775807 < x then 9223372036854775807 else if x < -9223372036854775808 then -9223372036854775808 else x
/-- The higher and the lower word of a number of 128 bits. -/
def hi64 (n : Int) : Int := n / 18446744073709551616
def lo64 (n : Int) : Int := n % 18446744073709551616
/-- A number fits int64; a word. -/
structure I64 (a : Int) : Prop where
  lo : -9223372036854775808 ≤ a
  hi : a ≤ 9223372036854775807
structure U64 (a : Int) : Prop where
  lo : 0 ≤ a
  hi : a < 18446744073709551616
structure U128 (a : Int) : Prop where
  lo : 0 ≤ a
  hi : a < 340282366920938463463374607431768211456
theorem ret_intF {k : IntKind} {a b : Int} (h : a = b) : Ending.returned (.int k a) = .returned (.int k b) := by rw [h]
theorem ret_boolF {a b : Bool} (h : a = b) : Ending.returned (.bool a) = .returned (.bool b) := by rw [h]
theorem sat_i64 (x : Int) : I64 (sat x) := by unfold sat; constructor <;> split <;> (try split) <;> omega
theorem sat_id {x : Int} (h : I64 x) : sat x = x := by obtain ⟨_, _⟩ := h; unfold sat; rw [if_neg (by omega), if_neg (by omega)]
theorem sat_le {x y : Int} (h : x ≤ y) : sat x ≤ sat y := by unfold sat; split <;> split <;> (try split) <;> (try split) <;> omega
theorem hi64_u64 {n : Int} (h : U128 n) : U64 (hi64 n) := by obtain ⟨_, _⟩ := h; unfold hi64; constructor <;> omega
theorem lo64_u64 (n : Int) : U64 (lo64 n) := by unfold lo64; constructor <;> omega
theorem join64 (n : Int) : hi64 n * 18446744073709551616 + lo64 n = n := by unfold hi64 lo64; omega
theorem hi64_join {h l : Int} (hl : U64 l) : hi64 (h * 18446744073709551616 + l) = h := by obtain ⟨_, _⟩ := hl; unfold hi64; omega
theorem lo64_join {h l : Int} (hl : U64 l) : lo64 (h * 18446744073709551616 + l) = l := by obtain ⟨_, _⟩ := hl; unfold lo64; omega
theorem hi64_word {l : Int} (hl : U64 l) : hi64 l = 0 := by obtain ⟨_, _⟩ := hl; unfold hi64; omega
theorem lo64_word {l : Int} (hl : U64 l) : lo64 l = l := by obtain ⟨_, _⟩ := hl; unfold lo64; omega
theorem u128_join {h l : Int} (hh : U64 h) (hl : U64 l) : U128 (h * 18446744073709551616 + l) := by obtain ⟨_, _⟩ := hh; obtain ⟨_, _⟩ := hl; constructor <;> omega
theorem u128_of_u64 {l : Int} (hl : U64 l) : U128 l := by obtain ⟨_, _⟩ := hl; constructor <;> omega
/-- A number without its sign. -/
def mag (a : Int) : Int := if a < 0 then -a else a
theorem mag_u64 {a : Int} (h : I64 a) : U64 (mag a) := by obtain ⟨_, _⟩ := h; unfold mag; constructor <;> split <;> omega
theorem mag_le {a : Int} (h : I64 a) : mag a ≤ 9223372036854775808 := by obtain ⟨_, _⟩ := h; unfold mag; split <;> omega
theorem mag_nonneg (a : Int) : 0 ≤ mag a := by unfold mag; split <;> omega
theorem mul_u128 {a b : Int} (ha : U64 a) (hb : U64 b) : U128 (a * b) := by
  obtain ⟨a0, a1⟩ := ha; obtain ⟨b0, b1⟩ := hb
  refine ⟨Int.mul_nonneg a0 b0, ?_⟩
  have h1 : a * b ≤ 18446744073709551615 * b := Int.mul_le_mul_of_nonneg_right (by omega) b0
  omega
/-- The number of this size, above 0 or below, saturated. -/
def numb (n : Int) (b : Bool) : Int := sat (if b then -n else n)
theorem numb_t (n : Int) : numb n true = sat (-n) := rfl
theorem numb_f (n : Int) : numb n false = sat n := rfl
/-- Two signs apart. -/
def apartB (a b : Int) : Bool := decide (a < 0) != decide (b < 0)
/-! The root, bit by bit. -/
/-- From bit 'k - 1' down: the greatest number, of the higher bits 'acc', whose square is not above n. -/
def rootGo (n : Nat) : Nat → Nat → Nat
  | 0, acc => acc
  | k + 1, acc => rootGo n k (if (acc + 2 ^ k) * (acc + 2 ^ k) ≤ n then acc + 2 ^ k else acc)
def root (n : Nat) : Nat := rootGo n 64 0
theorem rootGo_spec (n : Nat) : ∀ k acc, acc * acc ≤ n → n < (acc + 2 ^ k) * (acc + 2 ^ k) →
    rootGo n k acc * rootGo n k acc ≤ n ∧ n < (rootGo n k acc + 1) * (rootGo n k acc + 1) ∧ acc ≤ rootGo n k acc ∧ rootGo n k acc < acc + 2 ^ k
  | 0, acc, h1, h2 => by simpa [rootGo] using ⟨h1, h2⟩
  | k + 1, acc, h1, h2 => by
    have e : 2 ^ (k + 1) = 2 ^ k + 2 ^ k := by rw [Nat.pow_succ]; omega
    rw [rootGo]
    by_cases h : (acc + 2 ^ k) * (acc + 2 ^ k) ≤ n
    · rw [if_pos h]
      have r := rootGo_spec n k (acc + 2 ^ k) h (by rw [Nat.add_assoc, ← e]; exact h2)
      exact ⟨r.1, r.2.1, by omega, by omega⟩
    · rw [if_neg h]
      have r := rootGo_spec n k acc h1 (by omega)
      exact ⟨r.1, r.2.1, r.2.2.1, by omega⟩
theorem root_spec {n : Nat} (h : n < 340282366920938463463374607431768211456) : root n * root n ≤ n ∧ n < (root n + 1) * (root n + 1) ∧ root n < 18446744073709551616 := by
  have r := rootGo_spec n 64 0 (by omega) (by simpa using h)
  exact ⟨r.1, r.2.1, by show rootGo n 64 0 < _; simpa using r.2.2.2⟩
theorem sq_lt {a b : Nat} (h : a * a < b * b) : a < b := by
  apply Nat.lt_of_not_le
  intro hle
  have := Nat.mul_le_mul hle hle
  omega
theorem sq_le {a b : Nat} (h : a * a ≤ b * b) : a ≤ b := by
  apply Nat.le_of_not_lt
  intro hlt
  have := Nat.mul_lt_mul'' hlt hlt
  omega
/-- Who is squared between is the root. -/
theorem root_unique {n r : Nat} (h : n < 340282366920938463463374607431768211456) (h1 : r * r ≤ n) (h2 : n < (r + 1) * (r + 1)) : root n = r := by
  obtain ⟨s1, s2, _⟩ := root_spec h
  have a : root n < r + 1 := sq_lt (Nat.lt_of_le_of_lt s1 h2)
  have b : r < root n + 1 := sq_lt (Nat.lt_of_le_of_lt h1 s2)
  omega
theorem root_mono {n m : Nat} (hm : m < 340282366920938463463374607431768211456) (h : n ≤ m) : root n ≤ root m := by
  obtain ⟨s1, _, _⟩ := root_spec (n := n) (by omega)
  obtain ⟨_, t2, _⟩ := root_spec hm
  have : root n < root m + 1 := sq_lt (by omega)
  omega
/-- What the loop of the root holds: the bits found so far, the bit that is tried next. -/
def RootInv (N acc p : Nat) : Prop := (p = 0 ∧ acc = root N) ∨ ∃ j, j ≤ 63 ∧ p = 2 ^ j ∧ acc % (2 * 2 ^ j) = 0 ∧ acc + 2 * 2 ^ j ≤ 18446744073709551616 ∧ rootGo N (j + 1) acc = root N
theorem RootInv.start (N : Nat) : RootInv N 0 9223372036854775808 := .inr ⟨63, by omega, by decide, by decide, by decide, rfl⟩
theorem RootInv.done {N acc : Nat} (h : RootInv N acc 0) : acc = root N := by
  rcases h with h | ⟨j, _, h, _⟩
  · exact h.2
  · have := Nat.two_pow_pos j; omega
theorem RootInv.lt {N acc p : Nat} (h : RootInv N acc p) (hp : 0 < p) : acc + p < 18446744073709551616 ∧ p < 18446744073709551616 ∧ acc < 18446744073709551616 := by
  rcases h with h | ⟨j, _, h, _, h2, _⟩
  · omega
  · have := Nat.two_pow_pos j; omega
theorem RootInv.or {N acc p : Nat} (h : RootInv N acc p) (hp : 0 < p) : acc ||| p = acc + p := by
  rcases h with h | ⟨j, _, rfl, h1, _⟩
  · omega
  · have e : acc = 2 ^ (j + 1) * (acc / (2 * 2 ^ j)) := by
      have := Nat.div_add_mod acc (2 * 2 ^ j)
      rw [Nat.pow_succ, Nat.mul_comm (2 ^ j) 2]; omega
    have hlt : 2 ^ j < 2 ^ (j + 1) := by rw [Nat.pow_succ]; have := Nat.two_pow_pos j; omega
    rw [e, Nat.two_pow_add_eq_or_of_lt hlt]
theorem RootInv.step {N acc p : Nat} (h : RootInv N acc p) (hp : 0 < p) : RootInv N (if (acc + p) * (acc + p) ≤ N then acc + p else acc) (p / 2) := by
  rcases h with h | ⟨j, hj, rfl, h1, h2, h3⟩
  · omega
  · rw [rootGo] at h3
    generalize hx : (if (acc + 2 ^ j) * (acc + 2 ^ j) ≤ N then acc + 2 ^ j else acc) = x at *
    have hx' : x = acc + 2 ^ j ∨ x = acc := by rw [← hx]; split <;> simp
    cases j with
    | zero => exact .inl ⟨rfl, by simpa [rootGo] using h3⟩
    | succ j =>
      have e : 2 ^ (j + 1) = 2 * 2 ^ j := by rw [Nat.pow_succ]; omega
      have e2 : 2 ^ (j + 1) / 2 = 2 ^ j := by omega
      have hd : acc % (2 * 2 ^ j) = 0 := by
        have a1 : 2 * 2 ^ (j + 1) ∣ acc := Nat.dvd_of_mod_eq_zero h1
        exact Nat.mod_eq_zero_of_dvd (Nat.dvd_trans ⟨2, by omega⟩ a1)
      refine .inr ⟨j, by omega, e2, ?_, ?_, h3⟩
      · rcases hx' with rfl | rfl
        · rw [e, Nat.add_mod_right]; exact hd
        · exact hd
      · rcases hx' with rfl | rfl <;> omega
/-! The operations of numbers. -/
def fmul (a b : Int) : Int := numb (mag a * mag b / 65536) (apartB a b)
def fdiv (a b : Int) : Int := if a = 0 then 0 else if b = 0 then (if a < 0 then -9223372036854775808 else 9223372036854775807) else numb (mag a * 65536 / mag b) (apartB a b)
def fsqrt (a : Int) : Int := if a < 0 then 0 else (root (a * 65536).toNat : Int)
theorem numb_i64 (n : Int) (b : Bool) : I64 (numb n b) := sat_i64 _
theorem fmul_i64 (a b : Int) : I64 (fmul a b) := sat_i64 _
theorem fdiv_i64 (a b : Int) : I64 (fdiv a b) := by
  unfold fdiv; split
  · exact ⟨by omega, by omega⟩
  · split
    · split <;> exact ⟨by omega, by omega⟩
    · exact sat_i64 _
/-- What was there reads as it did (both as rules for the walk). -/
theorem bcell {W w1 : World} (hb : Below W.heap.size W w1) : (∀ b o, b < W.heap.size → w1.cell? ⟨b, o, none⟩ = W.cell? ⟨b, o, none⟩) ∧ (∀ b o, b < W.heap.size → w1.frozen? ⟨b, o, none⟩ = W.frozen? ⟨b, o, none⟩) :=
  ⟨fun b o h => hb.cell (p := ⟨b, o, none⟩) h, fun b o h => hb.frozen (p := ⟨b, o, none⟩) h⟩
/-- Two steps of which each leaves what was there when it began. -/
theorem btransF {W w1 w2 : World} (h1 : Below W.heap.size W w1) (h2 : Below w1.heap.size w1 w2) : Below W.heap.size W w2 := h1.trans (h2.mono h1.size)
end Go.Proofs.Ythcmcjklhcfenaa
