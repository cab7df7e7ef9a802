/- Layer 1 (fix): plain numbers for math/bits.Div64: two digits to base 2^32, each guessed and put right. No Go in this text. -/
import Derived.RowKit
namespace Go.Proofs.Ytfgbkmcbpmmfdaa

/-- One digit: what holds of the guess q and its rest r: y1, y0 the divisor's halves, u what is divided (its next half: v). -/
structure Guess (y1 y0 u v q r : Int) : Prop where
  y1lo : 2147483648 ≤ y1
  y1hi : y1 < 4294967296
  y0lo : 0 ≤ y0
  y0hi : y0 < 4294967296
  ulo : 0 ≤ u
  uhi : u < y1 * 4294967296 + y0
  vlo : 0 ≤ v
  vhi : v < 4294967296
  sum : q * y1 + r = u
  qlo : 0 ≤ q
  qhi : q ≤ 4294967297
  rlo : 0 ≤ r
  ge : u * 4294967296 + v < (q + 1) * (y1 * 4294967296 + y0)

theorem Guess.start {y1 y0 u v : Int} (a : 2147483648 ≤ y1) (b : y1 < 4294967296) (c : 0 ≤ y0) (d : y0 < 4294967296) (e : 0 ≤ u) (f : u < y1 * 4294967296 + y0) (g : 0 ≤ v) (h : v < 4294967296) :
    Guess y1 y0 u v (u / y1) (u - u / y1 * y1) ∧ u - u / y1 * y1 < y1 := by
  have hpos : 0 < y1 := by omega
  have h1 := Int.emod_add_mul_ediv u y1
  have h2 := Int.emod_nonneg u (Int.ne_of_gt hpos)
  have h3 := Int.emod_lt_of_pos u hpos
  rw [Int.mul_comm] at h1
  have q0 : 0 ≤ u / y1 := Int.ediv_nonneg e (by omega)
  generalize hq : u / y1 = q at *
  generalize hm : u % y1 = m at *
  have hqb : q ≤ 4294967297 := by
    apply Int.le_of_not_gt
    intro hgt
    have : 4294967298 * y1 ≤ q * y1 := Int.mul_le_mul_of_nonneg_right (by omega) (by omega)
    omega
  have e1 : (q + 1) * (y1 * 4294967296 + y0) = q * y1 * 4294967296 + q * y0 + y1 * 4294967296 + y0 := by
    rw [Int.add_mul, Int.mul_add, Int.one_mul, Int.mul_assoc]; omega
  have p0 : 0 ≤ q * y0 := Int.mul_nonneg q0 c
  exact ⟨⟨a, b, c, d, e, f, g, h, by omega, q0, hqb, by omega, by omega⟩, by omega⟩

/-- The test says that the guess is too great. -/
theorem Guess.test {y1 y0 u v q r : Int} (G : Guess y1 y0 u v q r) : r * 4294967296 + v < q * y0 ↔ u * 4294967296 + v < q * (y1 * 4294967296 + y0) := by
  obtain ⟨_, _, _, _, _, _, _, _, hs, _, _, _, _⟩ := G
  have e : q * (y1 * 4294967296 + y0) = q * y1 * 4294967296 + q * y0 := by rw [Int.mul_add, Int.mul_assoc]
  rw [e]
  constructor <;> intro h <;> omega
/-- One less, where it is too great. -/
theorem Guess.next {y1 y0 u v q r : Int} (G : Guess y1 y0 u v q r) (h : 4294967296 ≤ q ∨ r * 4294967296 + v < q * y0) : Guess y1 y0 u v (q - 1) (r + y1) ∧ 1 ≤ q ∧ q - 1 ≤ 4294967296 := by
  have t := G.test
  obtain ⟨a, b, c, d, e, f, g, k, hs, q0, q1, r0, hge⟩ := G
  have hbig : u * 4294967296 + v < q * (y1 * 4294967296 + y0) := by
    rcases h with h | h
    · have : 4294967296 * (y1 * 4294967296 + y0) ≤ q * (y1 * 4294967296 + y0) := Int.mul_le_mul_of_nonneg_right h (by omega)
      omega
    · exact t.1 h
  have hq : 1 ≤ q := by
    apply Int.le_of_not_gt
    intro hlt
    have : q = 0 := by omega
    rw [this, Int.zero_mul] at hbig
    omega
  have e1 : (q - 1) * y1 = q * y1 - y1 := by rw [Int.sub_mul, Int.one_mul]
  refine ⟨⟨a, b, c, d, e, f, g, k, by omega, by omega, by omega, by omega, ?_⟩, hq, by omega⟩
  rw [Int.sub_add_cancel]; exact hbig
/-- Not too great: it is the digit. -/
theorem Guess.done {y1 y0 u v q r : Int} (G : Guess y1 y0 u v q r) (h : q * y0 ≤ r * 4294967296 + v) :
    q = (u * 4294967296 + v) / (y1 * 4294967296 + y0) ∧ u * 4294967296 + v - q * (y1 * 4294967296 + y0) = (u * 4294967296 + v) % (y1 * 4294967296 + y0) ∧ q < 4294967296 := by
  have t := G.test
  obtain ⟨a, b, c, d, e, f, g, k, hs, q0, q1, r0, hge⟩ := G
  have hle : q * (y1 * 4294967296 + y0) ≤ u * 4294967296 + v := by
    apply Int.le_of_not_gt; intro hgt; have := t.2 hgt; omega
  have hY : 0 < y1 * 4294967296 + y0 := by omega
  have hN : u * 4294967296 + v < 4294967296 * (y1 * 4294967296 + y0) := by omega
  generalize y1 * 4294967296 + y0 = Y at *
  generalize u * 4294967296 + v = N at *
  have hq : q = N / Y := by
    have h1 : q ≤ N / Y := (Int.le_ediv_iff_mul_le hY).2 hle
    have h2 : N / Y < q + 1 := (Int.ediv_lt_iff_lt_mul hY).2 hge
    omega
  refine ⟨hq, ?_, ?_⟩
  · have := Int.emod_add_mul_ediv N Y
    rw [← hq, Int.mul_comm] at this
    omega
  · apply Int.lt_of_not_ge
    intro hge'
    have : 4294967296 * Y ≤ q * Y := Int.mul_le_mul_of_nonneg_right hge' (by omega)
    omega
/-- The rest has grown out of its half: it is the digit, too. -/
theorem Guess.broke {y1 y0 u v q r : Int} (G : Guess y1 y0 u v q r) (hq : q ≤ 4294967296) (h : 4294967296 ≤ r) : q * y0 ≤ r * 4294967296 + v := by
  obtain ⟨a, b, c, d, e, f, g, k, hs, q0, q1, r0, hge⟩ := G
  have : q * y0 ≤ 4294967296 * 4294967295 := Int.mul_le_mul hq (by omega) c (by omega)
  omega
/-- Two digits are the quotient. -/
theorem two_digits {Y N u v0 v1 q1 q0 : Int} (hY : 0 < Y) (hu : N = (u * 4294967296 + v1) * 4294967296 + v0) (h1 : q1 = (u * 4294967296 + v1) / Y) (h0 : q0 = ((u * 4294967296 + v1) % Y * 4294967296 + v0) / Y) :
    q1 * 4294967296 + q0 = N / Y := by
  have e1 := Int.emod_add_mul_ediv (u * 4294967296 + v1) Y
  have e0 := Int.emod_add_mul_ediv ((u * 4294967296 + v1) % Y * 4294967296 + v0) Y
  have l0 := Int.emod_nonneg ((u * 4294967296 + v1) % Y * 4294967296 + v0) (Int.ne_of_gt hY)
  have l1 := Int.emod_lt_of_pos ((u * 4294967296 + v1) % Y * 4294967296 + v0) hY
  rw [← h1] at e1
  rw [← h0] at e0
  generalize u * 4294967296 + v1 = M at *
  generalize hr : M % Y = r at *
  generalize (r * 4294967296 + v0) % Y = t at *
  have hN : N = t + Y * (q1 * 4294967296 + q0) := by
    rw [Int.mul_add, ← Int.mul_assoc]; omega
  rw [hN, Int.add_mul_ediv_left _ _ (Int.ne_of_gt hY), Int.ediv_eq_zero_of_lt l0 l1]; omega

/-- What the shifted numbers are, under names. -/
theorem shifted {hi lo y : Nat} {s : Nat} (hs : s ≤ 63) (h1 : hi < y) (hl : lo < 18446744073709551616) (hY1 : 9223372036854775808 ≤ y * 2 ^ s) (hY2 : y * 2 ^ s < 18446744073709551616) :
    ∃ U V : Nat, (hi * 2 ^ s) ||| (lo / 2 ^ (64 - s)) = U ∧ lo * 2 ^ s % 18446744073709551616 = V ∧ U < y * 2 ^ s ∧ hi * 2 ^ s < 18446744073709551616 ∧ lo / 2 ^ (64 - s) < 18446744073709551616 ∧
      (hi * 18446744073709551616 + lo) * 2 ^ s = U * 18446744073709551616 + V ∧ V < 18446744073709551616 := by
  have p : 0 < 2 ^ s := Nat.two_pow_pos s
  have e64 : 2 ^ (64 - s) * 2 ^ s = 18446744073709551616 := by rw [← Nat.pow_add, show 64 - s + s = 64 from by omega]
  have hq : lo / 2 ^ (64 - s) < 2 ^ s := by
    rw [Nat.div_lt_iff_lt_mul (Nat.two_pow_pos _), Nat.mul_comm, e64]; exact hl
  have hdiv : lo * 2 ^ s / 18446744073709551616 = lo / 2 ^ (64 - s) := by rw [← e64, Nat.mul_div_mul_right _ _ p]
  have hor : (hi * 2 ^ s) ||| (lo / 2 ^ (64 - s)) = hi * 2 ^ s + lo / 2 ^ (64 - s) := by
    rw [Nat.mul_comm hi, Nat.two_pow_add_eq_or_of_lt hq]
  have hle : (hi + 1) * 2 ^ s ≤ y * 2 ^ s := Nat.mul_le_mul_right _ h1
  rw [Nat.add_mul, Nat.one_mul] at hle
  have hdm := Nat.div_add_mod (lo * 2 ^ s) 18446744073709551616
  rw [hdiv] at hdm
  refine ⟨_, _, hor, rfl, by omega, by omega, by omega, ?_, Nat.mod_lt _ (by decide)⟩
  rw [Nat.add_mul, Nat.mul_right_comm]; omega
end Go.Proofs.Ytfgbkmcbpmmfdaa
