/- Layer 1 (fix): Long. -/
import Derived.Test.YtfgbkmcbpmmfdaaFixF
namespace Go.Proofs.Ytfgbkmcbpmmfdaa
open Go.RowKit
set_option linter.unusedVariables false

def flong (a1 a2 a3 : Int) : Int := sat (root (mag a1 * mag a1 + mag a2 * mag a2 + mag a3 * mag a3).toNat : Nat)
theorem sq_u128 {a : Int} (h : I64 a) : 0 ≤ mag a * mag a ∧ mag a * mag a ≤ 85070591730234615865843651857942052864 := by
  have h0 := mag_nonneg a; have h1 := mag_le h
  refine ⟨Int.mul_nonneg h0 h0, ?_⟩
  have : mag a * mag a ≤ 9223372036854775808 * 9223372036854775808 := Int.mul_le_mul h1 h1 h0 (by omega)
  omega
theorem u128_0 : U128 0 := ⟨by omega, by omega⟩

theorem long_facts {a1 a2 a3 : Int} (h1 : I64 a1) (h2 : I64 a2) (h3 : I64 a3) : U128 (0 + mag a1 * mag a1) ∧ U128 (0 + mag a1 * mag a1 + mag a2 * mag a2) ∧ U128 (0 + mag a1 * mag a1 + mag a2 * mag a2 + mag a3 * mag a3) := by
  have q1 := sq_u128 h1; have q2 := sq_u128 h2; have q3 := sq_u128 h3
  exact ⟨⟨by omega, by omega⟩, ⟨by omega, by omega⟩, ⟨by omega, by omega⟩⟩
theorem root_u64 {n : Int} (h : U128 n) : U64 ((root n.toNat : Nat) : Int) := by
  have k := (root_spec (n := n.toNat) (by have := h.hi; omega)).2.2
  exact ⟨by omega, by omega⟩
theorem long_fin (a1 a2 a3 : Int) : numb ((root (0 + mag a1 * mag a1 + mag a2 * mag a2 + mag a3 * mag a3).toNat : Nat) : Int) false = flong a1 a2 a3 := by
  unfold flong; rw [numb_f, Int.zero_add]

set_option maxHeartbeats 400000 in
theorem fixLong (a1 a2 a3 : Int) (h1 : I64 a1) (h2 : I64 a2) (h3 : I64 a3) (w : World) :
    Calls Try.prog 36 #[.agg #[.int .i64 a1, .int .i64 a2, .int .i64 a3]] w fun e w' => e = .returned (.int .i64 (flong a1 a2 a3)) ∧ Below w.heap.size w w' := by
  obtain ⟨s1, s2, s3⟩ := long_facts h1 h2 h3
  go_enter Try.func36, Try.ntmps36
  go_wp2_with fail
  refine (alongLong a1 a2 a3 0 (w.heap.size + 1) h1 h2 h3 u128_0 s1 s2 s3 _ (by simp) (by simp [go_sem, hi64]) (by simp [go_sem, lo64]) (by simp [go_sem]) (by simp [go_sem])).mono ?_
  rintro e W ⟨rfl, A⟩
  have hb : Below w.heap.size w W := Below.trans (((Below.refl _ _).alloc (Nat.le_refl _) _).alloc (by simp) _) (A.below (by omega) (by simp; omega))
  obtain ⟨_, _, _, hz, _, c0, c1, _, _⟩ := A
  clear hz
  generalize hN : 0 + mag a1 * mag a1 + mag a2 * mag a2 + mag a3 * mag a3 = N at *
  have HN : Hid _ := hN
  clear hN
  go_wp2_with fail
  refine (fixRoot _ _ (hi64_u64 s3) (lo64_u64 _) _).mono ?_
  rintro e W2 ⟨rfl, b2⟩
  rw [join64]
  go_wp2_with fail
  refine (fixNumber _ _ _ ⟨by omega, by omega⟩ (root_u64 s3) _).mono ?_
  rintro e W3 ⟨rfl, b3⟩
  go_wp2
  go_ret
  have hf := long_fin a1 a2 a3
  rw [HN.out] at hf
  exact ⟨ret_int hf, btrans (btrans hb b2) b3⟩
end Go.Proofs.Ytfgbkmcbpmmfdaa
