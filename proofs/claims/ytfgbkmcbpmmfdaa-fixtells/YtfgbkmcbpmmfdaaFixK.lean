/- Layer 1 (fix): Div, of any two numbers. -/
import Derived.Test.YtfgbkmcbpmmfdaaFixI
import Derived.Test.YtfgbkmcbpmmfdaaFixJ
namespace Go.Proofs.Ytfgbkmcbpmmfdaa
open Go.RowKit
set_option linter.unusedVariables false

theorem div64_any (hi lo y : Int) (h0 : 0 ≤ hi) (h1 : hi < y) (h2 : y < 18446744073709551616) (hl : U64 lo) (w : World) :
    Calls Try.prog 51 #[.int .u64 hi, .int .u64 lo, .int .u64 y] w fun e w' => (∃ r : Int, e = .returned (.tuple #[.int .u64 ((hi * 18446744073709551616 + lo) / y), .int .u64 r])) ∧ Below w.heap.size w w' := by
  by_cases h : hi = 0
  · subst h
    rw [Int.zero_mul, Int.zero_add]
    refine (div64_small lo y h1 h2 hl.lo hl.hi w).mono fun e w' ⟨he, hw⟩ => ⟨he, ?_⟩
    rcases hw with rfl | rfl
    · exact Below.refl _ _
    · exact (Below.refl _ _).drew
  · exact (div64_big hi lo y (by omega) h1 h2 hl.lo hl.hi w).mono fun e w' ⟨he, hw⟩ => ⟨he, hw ▸ Below.refl _ _⟩

theorem mag_pos_of {b : Int} (h : b ≠ 0) : 0 < mag b := by unfold mag; split <;> omega
/-- Beyond the end. -/
theorem numb_end {q : Int} (b : Bool) (h : 18446744073709551616 ≤ q) : numb q b = fend b := by
  cases b
  · rw [numb_f]; unfold sat fend; rw [if_pos (by omega)]; rfl
  · rw [numb_t]; unfold sat fend; rw [if_neg (by omega), if_pos (by omega)]; rfl

set_option maxHeartbeats 1000000 in
theorem fixDiv (a b : Int) (ha : I64 a) (hb : I64 b) (w : World) :
    Calls Try.prog 24 #[.int .i64 a, .int .i64 b] w fun e w' => e = .returned (.int .i64 (fdiv a b)) ∧ Below w.heap.size w w' := by
  by_cases hb0 : b = 0
  · subst hb0; exact fixDivZero a ha w
  by_cases h0 : a = 0
  · subst h0
    go_enter Try.func24, Try.ntmps24
    go_wp2
    go_ret
    exact ⟨rfl, Below.refl _ _⟩
  have hp := mul_u128 (mag_u64 ha) u64_one16
  have hmb := mag_pos_of hb0
  have hmu := mag_u64 hb
  have hfd : fdiv a b = numb (mag a * 65536 / mag b) (apartB a b) := by unfold fdiv; rw [if_neg h0, if_neg hb0]
  have e0 : (a == 0) = false := beq_eq_false_iff_ne.2 h0
  have hj := join64 (mag a * 65536)
  have hlo := lo64_u64 (mag a * 65536)
  have hhi := hi64_u64 hp
  have hp0 := hp.lo
  clear h0 hb0
  rw [hfd]
  clear hfd
  by_cases hge : mag b ≤ hi64 (mag a * 65536)
  · have hend : numb (mag a * 65536 / mag b) (apartB a b) = fend (apartB a b) := by
      apply numb_end
      rw [Int.le_ediv_iff_mul_le hmb]
      have := hlo.lo; omega
    rw [hend]
    clear hend hj hp0
    go_enter Try.func24, Try.ntmps24
    go_wp2_with fail
    refine (fixSize a ha _).mono ?_; rintro e w' ⟨rfl, rfl⟩
    go_wp2_with fail
    refine (fixProduct _ _ (mag_u64 ha) u64_one16 _).mono ?_; rintro e w1 ⟨rfl, b1⟩
    go_wp2_with fail
    refine (fixSize b hb _).mono ?_; rintro e w2 ⟨rfl, hw2⟩
    rw [hw2]
    clear hw2
    go_wp2_with fail
    refine (fixApart a b _).mono ?_; rintro e w2 ⟨rfl, hw2⟩
    rw [hw2]
    clear hw2
    go_wp2_with fail
    refine (fixEnd _ _).mono ?_; rintro e w2 ⟨rfl, hw2⟩
    rw [hw2]
    clear hw2
    go_wp2
    go_ret
    exact ⟨rfl, b1.alloc b1.size _⟩
  · have hq : U64 (mag a * 65536 / mag b) := by
      refine ⟨Int.ediv_nonneg hp0 (by omega), ?_⟩
      rw [Int.ediv_lt_iff_lt_mul hmb]
      have := hlo.hi; omega
    have HJ : Hid _ := hj
    have hge' : hi64 (mag a * 65536) < mag b := by omega
    clear hj hge
    go_enter Try.func24, Try.ntmps24
    go_wp2_with fail
    refine (fixSize a ha _).mono ?_; rintro e w' ⟨rfl, rfl⟩
    go_wp2_with fail
    refine (fixProduct _ _ (mag_u64 ha) u64_one16 _).mono ?_; rintro e w1 ⟨rfl, b1⟩
    go_wp2_with fail
    refine (fixSize b hb _).mono ?_; rintro e w2 ⟨rfl, hw2⟩
    rw [hw2]
    clear hw2
    go_wp2_with fail
    refine (div64_any _ _ _ hhi.lo hge' hmu.hi hlo _).mono ?_; rintro e w3 ⟨⟨r, rfl⟩, b3⟩
    rw [HJ.out]
    have B3 : Below w'.heap.size w' w3 := (b1.alloc b1.size _).trans (b3.mono (by have := b1.size; simp; omega))
    go_wp2_with fail
    refine (fixApart a b _).mono ?_; rintro e w4 ⟨rfl, hw4⟩
    rw [hw4]
    clear hw4
    go_wp2_with fail
    refine (fixNumber _ _ _ ⟨by omega, by omega⟩ hq _).mono ?_; rintro e w5 ⟨rfl, b5⟩
    go_wp2
    go_ret
    exact ⟨rfl, btrans B3 b5⟩
end Go.Proofs.Ytfgbkmcbpmmfdaa
