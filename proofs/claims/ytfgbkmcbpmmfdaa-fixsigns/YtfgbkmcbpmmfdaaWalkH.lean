/- Layer 1 (fix): the walk of the law FixSigns. -/
import Derived.Test.YtfgbkmcbpmmfdaaFixMath2
import Derived.Test.YtfgbkmcbpmmfdaaFixK
import Derived.Deep.DeepCutAuto
namespace Go.Proofs.Ytfgbkmcbpmmfdaa
open Go.RowKit
set_option linter.unusedVariables false

theorem maxM_run (x : Int) (ts : Array TypeId) (t : TypeId) (W : World) : (Builtin.max_ ts t #[.int .i64 x, .int .i64 (-9223372036854775807)]).run Try.prog W = .ok (.int .i64 (max x (-9223372036854775807))) W := by
  rw [run_max_int2]; congr 2; split <;> omega
/-- One of three, as the walk asks. -/
theorem three_ways {p m s : Int} (h : m = s ∨ p = 9223372036854775807 ∨ p = -9223372036854775808) :
    (m == s) = true ∨ ((m == s) = false ∧ (p == 9223372036854775807) = true) ∨ ((m == s) = false ∧ (p == 9223372036854775807) = false ∧ (p == -9223372036854775808) = true) := by
  by_cases h1 : m = s
  · exact .inl (beq_iff_eq.2 h1)
  · by_cases h2 : p = 9223372036854775807
    · exact .inr (.inl ⟨beq_eq_false_iff_ne.2 h1, beq_iff_eq.2 h2⟩)
    · exact .inr (.inr ⟨beq_eq_false_iff_ne.2 h1, beq_eq_false_iff_ne.2 h2, beq_iff_eq.2 ((h.resolve_left h1).resolve_left h2)⟩)

set_option maxRecDepth 100000 in
set_option maxHeartbeats 8000000 in
theorem fixSigns_walk (a0 b0 : Int) (ha0 : I64 a0) (hb0 : I64 b0) (w : World) :
    Calls Try.prog 9 #[.int .i64 a0, .int .i64 b0] w fun e w' => e = .returned (.bool true) ∧ Below w.heap.size w w' := by
  have k1 := maxM_run a0; have k2 := maxM_run b0
  obtain ⟨a, ea⟩ : ∃ a, max a0 (-9223372036854775807) = a := ⟨_, rfl⟩
  obtain ⟨b, eb⟩ : ∃ b, max b0 (-9223372036854775807) = b := ⟨_, rfl⟩
  rw [ea] at k1; rw [eb] at k2
  have A0 : -9223372036854775807 ≤ a := by omega
  have A1 : a ≤ 9223372036854775807 := by have := ha0.hi; omega
  have B0 : -9223372036854775807 ≤ b := by omega
  have B1 : b ≤ 9223372036854775807 := by have := hb0.hi; omega
  have Ia : I64 a := ⟨by omega, by omega⟩
  have Ib : I64 b := ⟨by omega, by omega⟩
  have In : I64 (-a) := ⟨by omega, by omega⟩
  have Im : I64 (-b) := ⟨by omega, by omega⟩
  clear ea eb
  have s1 := (sign_mul (a := a) (b := b)).1
  have s2 := three_ways (sign_mul (a := a) (b := b)).2
  have s3 : b ≠ 0 → fdiv (-a) (-b) = fdiv a b := fun h => (sign_div h).1
  have s4 := three_ways (p := fdiv a b) (m := fdiv (-a) b) (s := sat (-fdiv a b)) (by
    by_cases h : b = 0
    · subst h; exact sign_div0 a
    · exact (sign_div h).2)
  have s5 : sat (a + -b) = sat (a - b) := by rw [Int.sub_eq_add_neg]
  have Ip := fmul_i64 a b; have Iq := fdiv_i64 a b
  generalize e1 : fmul a b = p at *
  generalize e2 : fdiv a b = q at *
  generalize e3 : fmul (-a) b = pn at *
  generalize e4 : fdiv (-a) b = qn at *
  generalize e5 : sat (-p) = np at *
  generalize e6 : sat (-q) = nq at *
  have E1 : Hid _ := e1; have E2 : Hid _ := e2; have E3 : Hid _ := e3; have E4 : Hid _ := e4; have E5 : Hid _ := e5; have E6 : Hid _ := e6
  have S1 : Hid _ := s1; have S2 : Hid _ := s2; have S3 : Hid _ := s3; have S4 : Hid _ := s4; have S5 : Hid _ := s5
  clear e1 e2 e3 e4 e5 e6 s1 s2 s3 s4 s5
  go_enter Try.func9, Try.ntmps9
  go_wp2_with fail
  refine (shown_any _).mono ?_; rintro e w1 ⟨rfl, b1⟩
  go_wp2_with fail
  refine (fixMul a b Ia Ib _).mono ?_; rintro e w2 ⟨rfl, b2⟩
  rw [E1.out]
  have BB := btrans b1 b2
  clear b1 b2
  go_wp2_with fail
  refine (fixDiv a b Ia Ib _).mono ?_; rintro e w3 ⟨rfl, b3⟩
  rw [E2.out]
  have BB := btrans BB b3
  clear b3
  go_wp2_with fail
  refine (fixMul (-a) b In Ib _).mono ?_; rintro e w4 ⟨rfl, b4⟩
  rw [E3.out]
  have BB := btrans BB b4
  clear b4
  go_wp2_with fail
  refine (fixNeg p Ip _).mono ?_; rintro e w5 ⟨rfl, hw5⟩
  rw [hw5, E5.out]
  clear hw5
  rcases S2.out with c1 | ⟨c1, c2⟩ | ⟨c1, c2, c3⟩
  all_goals
    go_wp2_with fail
    refine (fixDiv (-a) b In Ib _).mono ?_; rintro e w6 ⟨rfl, b6⟩
    rw [E4.out]
    have BB := btrans BB b6
    clear b6
    go_wp2_with fail
    refine (fixNeg q Iq _).mono ?_; rintro e w7 ⟨rfl, hw7⟩
    rw [hw7, E6.out]
    clear hw7
    rcases S4.out with d1 | ⟨d1, d2⟩ | ⟨d1, d2, d3⟩
    all_goals
      go_wp2_with fail
      refine (fixMul (-a) (-b) In Im _).mono ?_; rintro e w8 ⟨rfl, b8⟩
      rw [S1.out]
      have BB := btrans BB b8
      clear b8
      by_cases hz : b = 0
      · have ez : (b == 0) = true := beq_iff_eq.2 hz
        clear hz
        go_wp2_with fail
        refine (subFn a b Ia Ib _).mono ?_; rintro e wA ⟨rfl, bA⟩
        have BB := btrans BB bA
        clear bA
        go_wp2_with fail
        refine (addFn a (-b) Ia Im _).mono ?_; rintro e wB ⟨rfl, bB⟩
        rw [S5.out]
        have BB := btrans BB bB
        clear bB
        go_wp2
        go_ret
        exact ⟨rfl, BB⟩
      · have ez : (b == 0) = false := beq_eq_false_iff_ne.2 hz
        have S6 : Hid _ := S3.out hz
        clear hz
        go_wp2_with fail
        refine (fixDiv (-a) (-b) In Im _).mono ?_; rintro e w9 ⟨rfl, b9⟩
        rw [S6.out]
        have BB := btrans BB b9
        clear b9
        go_wp2_with fail
        refine (subFn a b Ia Ib _).mono ?_; rintro e wA ⟨rfl, bA⟩
        have BB := btrans BB bA
        clear bA
        go_wp2_with fail
        refine (addFn a (-b) Ia Im _).mono ?_; rintro e wB ⟨rfl, bB⟩
        rw [S5.out]
        have BB := btrans BB bB
        clear bB
        go_wp2
        go_ret
        exact ⟨rfl, BB⟩
end Go.Proofs.Ytfgbkmcbpmmfdaa
