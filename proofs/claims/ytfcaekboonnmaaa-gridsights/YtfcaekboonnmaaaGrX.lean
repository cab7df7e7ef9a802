/- Layer 9 (grid): the contracts of the document's own answers at, between. -/
import Derived.Test.YtfcaekboonnmaaaGrW
import Derived.Test.YtfcaekboonnmaaaGrT
namespace Go.Proofs.Ytfcaekboonnmaaa
open Go.RowKit
set_option linter.unusedVariables false
set_option linter.unusedSimpArgs false
attribute [local go_sem ↓] Go.wp_at_zero Go.wp_at_succ

def atI (a b p q : Int) : Int := (a * q + (b - a) * p) / (q * 65536)
theorem at_num {a b p q : Int} (ha : 0 ≤ a ∧ a < 2097152) (hb : 0 ≤ b ∧ b < 2097152) (hp : PartOk (p, q)) : (0 ≤ a * q ∧ a * q ≤ 8796093022208) ∧ (-8796093022208 ≤ (b - a) * p ∧ (b - a) * p ≤ 8796093022208) ∧ 0 ≤ a * q + (b - a) * p := by
  obtain ⟨p1, p2, p3, p4⟩ := hp
  dsimp only at p1 p2 p3 p4
  have h1 := Int.mul_nonneg ha.1 (show 0 ≤ q by omega)
  have h2 := Int.mul_le_mul_of_nonneg_right (show a ≤ 2097152 by omega) (show 0 ≤ q by omega)
  have h3 := Int.mul_le_mul_of_nonneg_right (show b - a ≤ 2097152 by omega) p1
  have h4 := Int.mul_le_mul_of_nonneg_right (show -2097152 ≤ b - a by omega) p1
  have h5 := Int.mul_nonneg ha.1 (show 0 ≤ q - p by omega)
  have h6 := Int.mul_nonneg hb.1 p1
  have e : a * q + (b - a) * p = a * (q - p) + b * p := by grind
  exact ⟨⟨h1, by omega⟩, ⟨by omega, by omega⟩, by omega⟩
theorem refAtP (a b p q : Int) (ha : 0 ≤ a ∧ a < 2097152) (hb : 0 ≤ b ∧ b < 2097152) (hp : PartOk (p, q)) (w : World) :
    Calls Try.prog 47 #[.int .i64 a, .int .i64 b, .agg #[.int .i64 p, .int .i64 q]] w fun e w' => e = .returned (.int .i64 (atI a b p q)) ∧ Below w.heap.size w w' := by
  obtain ⟨⟨m1, m2⟩, ⟨m3, m4⟩, m5⟩ := at_num ha hb hp
  obtain ⟨p1, p2, p3, p4⟩ := hp
  dsimp only at p1 p2 p3 p4
  obtain ⟨a1, a2⟩ := ha; obtain ⟨b1, b2⟩ := hb
  unfold atI
  obtain ⟨x, hx⟩ : ∃ x, a * q = x := ⟨_, rfl⟩
  obtain ⟨y, hy⟩ : ∃ y, (b - a) * p = y := ⟨_, rfl⟩
  have hq : Int.tdiv (x + y) (q * 65536) = (x + y) / (q * 65536) := Int.tdiv_eq_ediv_of_nonneg (by omega)
  have hqn : ¬ q * 65536 = 0 := by omega
  have hd0 : 0 ≤ (x + y) / (q * 65536) := Int.ediv_nonneg (by omega) (by omega)
  have hd1 : (x + y) / (q * 65536) ≤ x + y := Int.ediv_le_self _ (by omega)
  rw [hx] at m1 m2 m5
  rw [hy] at m3 m4 m5
  rw [hx, hy]
  go_enter Try.func47, Try.ntmps47
  go_wp2
  go_ret
  exact ⟨ret_int (by simp [hx, hy, hq]), (Below.refl _ _).alloc (Nat.le_refl _) _⟩
theorem refBetweenP (a b p q r s : Int) (ha : 0 ≤ a ∧ a < 2097152) (hb : 0 ≤ b ∧ b < 2097152) (hp : PartOk (p, q)) (hr : PartOk (r, s)) (w : World) :
    Calls Try.prog 48 #[.int .i64 a, .int .i64 b, .agg #[.int .i64 p, .int .i64 q], .agg #[.int .i64 r, .int .i64 s]] w fun e w' => e = .returned (.int .i64 (if b < a then atI a b r s else atI a b p q)) ∧ Below w.heap.size w w' := by
  have B0 : Below w.heap.size w ((w.alloc (.cells #[.int .i64 p, .int .i64 q] 64)).alloc (.cells #[.int .i64 r, .int .i64 s] 64)) := ((Below.refl _ _).alloc (Nat.le_refl _) _).alloc (by simp) _
  by_cases h : b < a
  · rw [if_pos h]
    go_enter Try.func48, Try.ntmps48
    go_wp2_with fail
    refine (refAtP a b r s ha hb hr _).mono ?_; rintro e V1 ⟨rfl, q1⟩
    have B1 := btrans B0 q1
    go_wp2
    go_ret
    exact ⟨rfl, B1⟩
  · rw [if_neg h]
    go_enter Try.func48, Try.ntmps48
    go_wp2_with fail
    refine (refAtP a b p q ha hb hp _).mono ?_; rintro e V1 ⟨rfl, q1⟩
    have B1 := btrans B0 q1
    go_wp2
    go_ret
    exact ⟨rfl, B1⟩
theorem atI_in {a b p q : Int} (hp : PartOk (p, q)) : InC (atI a b p q) (posn a b ((p : Rat) / q)) := by
  obtain ⟨p1, p2, p3, p4⟩ := hp
  dsimp only at p1 p2 p3 p4
  have hq : (0 : Rat) < (q : Rat) := by have := cast_lt p3; simpa using this
  have hm : ((p : Rat) / q) * q = p := by rw [Rat.div_def, Rat.mul_assoc, Rat.inv_mul_cancel _ (by grind), Rat.mul_one]
  obtain ⟨c, hc⟩ : ∃ c, atI a b p q = c := ⟨_, rfl⟩
  have h1 : c * (q * 65536) ≤ a * q + (b - a) * p := by rw [← hc]; exact Int.ediv_mul_le _ (by omega)
  have h2 : a * q + (b - a) * p < (c + 1) * (q * 65536) := by rw [← hc]; exact Int.lt_ediv_add_one_mul_self _ (by omega)
  rw [hc]
  have h1' := cast_le h1
  have h2' := cast_lt h2
  simp only [Rat.intCast_mul, Rat.intCast_add, Rat.intCast_sub] at h1' h2'
  obtain ⟨t, ht⟩ : ∃ t, (p : Rat) / q = t := ⟨_, rfl⟩
  rw [ht] at hm ⊢
  have e : (a : Rat) * q + ((b : Rat) - a) * p = posn a b t * q := by unfold posn; rw [← hm]; grind
  rw [e] at h1' h2'
  constructor
  · apply Rat.not_lt.1
    intro hl
    have := Rat.mul_lt_mul_of_pos_right hl hq
    grind
  · apply Rat.not_le.1
    intro hl
    have := Rat.mul_le_mul_of_nonneg_right hl (Rat.le_of_lt hq)
    grind
end Go.Proofs.Ytfcaekboonnmaaa
