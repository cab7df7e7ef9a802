/- Layer 1 (fix): the walk of the law FixSmall. -/
import Derived.Test.YtfgbkmcbpmmfdaaFixMath2
import Derived.Test.YtfgbkmcbpmmfdaaFixK
namespace Go.Proofs.Ytfgbkmcbpmmfdaa
open Go.RowKit
set_option linter.unusedVariables false

theorem quarter_bd (x : Int) (h : I32 x) : -536870912 ≤ x.tdiv 4 ∧ x.tdiv 4 ≤ 536870912 := by
  obtain ⟨_, _⟩ := h
  rcases tdiv_cases x 4 (by omega) with ⟨_, e⟩ | ⟨_, e⟩ <;> rw [e] <;> omega
theorem mul_bd {x y B : Int} (hB : 0 ≤ B) (x0 : -B ≤ x) (x1 : x ≤ B) (y0 : -B ≤ y) (y1 : y ≤ B) : -(B * B) ≤ x * y ∧ x * y ≤ B * B := by
  have hm : mag x * mag y ≤ B * B := Int.mul_le_mul (by unfold mag; split <;> omega) (by unfold mag; split <;> omega) (mag_nonneg _) hB
  have h0 := Int.mul_nonneg (mag_nonneg x) (mag_nonneg y)
  cases h : apartB x y
  · rw [(mag_mul x y).2 h]; omega
  · rw [(mag_mul x y).1 h]; omega
/-- A quotient, and what is left: nearer to nought than the divisor. -/
theorem tdiv_rest {n y : Int} (hy : y ≠ 0) : (0 < y → n - n.tdiv y * y < y ∧ -y < n - n.tdiv y * y) ∧ (y < 0 → n - n.tdiv y * y < -y ∧ y < n - n.tdiv y * y) := by
  have key : ∀ n d : Int, 0 < d → n - n.tdiv d * d < d ∧ -d < n - n.tdiv d * d := by
    intro n d hd
    rcases tdiv_cases n d hd with ⟨hn, e⟩ | ⟨hn, e⟩ <;> rw [e]
    · have h1 := Int.emod_add_mul_ediv n d
      have h2 := Int.emod_nonneg n (Int.ne_of_gt hd)
      have h3 := Int.emod_lt_of_pos n hd
      rw [Int.mul_comm] at h1
      omega
    · have h1 := Int.emod_add_mul_ediv (-n) d
      have h2 := Int.emod_nonneg (-n) (Int.ne_of_gt hd)
      have h3 := Int.emod_lt_of_pos (-n) hd
      rw [Int.mul_comm] at h1
      rw [Int.neg_mul]
      omega
  refine ⟨key n y, fun h => ?_⟩
  have k := key n (-y) (by omega)
  rw [Int.tdiv_neg, Int.neg_mul_neg] at k
  omega
theorem tdiv_bd {n y B : Int} (hy : y ≠ 0) (h0 : -B ≤ n) (h1 : n ≤ B) : -B ≤ n.tdiv y ∧ n.tdiv y ≤ B := by
  have key : ∀ d : Int, 0 < d → -B ≤ n.tdiv d ∧ n.tdiv d ≤ B := by
    intro d hd
    rcases tdiv_cases n d hd with ⟨hn, e⟩ | ⟨hn, e⟩ <;> rw [e]
    · have := Int.ediv_nonneg hn (Int.le_of_lt hd); have := Int.ediv_le_self d hn; omega
    · have := Int.ediv_nonneg (show 0 ≤ -n by omega) (Int.le_of_lt hd); have := Int.ediv_le_self d (show 0 ≤ -n by omega); omega
  rcases Int.lt_or_gt_of_ne hy with h | h
  · have k := key (-y) (by omega)
    rw [Int.tdiv_neg] at k; omega
  · exact key y h

set_option maxRecDepth 100000 in
set_option maxHeartbeats 4000000 in
theorem fixSmall_walk (a b : Int) (ha : I32 a) (hb : I32 b) (w : World) :
    Calls Try.prog 6 #[.int .i32 a, .int .i32 b] w fun e w' => e = .returned (.bool true) ∧ Below w.heap.size w w' := by
  have x0 := ha.lo; have x1 := ha.hi; have y0 := hb.lo; have y1 := hb.hi
  have hx := quarter_bd a ha; have hy := quarter_bd b hb
  obtain ⟨x, ex⟩ : ∃ x, a.tdiv 4 = x := ⟨_, rfl⟩
  obtain ⟨y, ey⟩ : ∃ y, b.tdiv 4 = y := ⟨_, rfl⟩
  rw [ex] at hx; rw [ey] at hy
  obtain ⟨p0, p1⟩ := hx; obtain ⟨r0, r1⟩ := hy
  have Ix : I64 x := ⟨by omega, by omega⟩
  have Iy : I64 y := ⟨by omega, by omega⟩
  have hP := mul_bd (B := 536870912) (by omega) (by omega) p1 (by omega) r1
  obtain ⟨P, eP⟩ : ∃ P, x * y = P := ⟨_, rfl⟩
  rw [eP] at hP
  obtain ⟨P0, P1⟩ := hP
  have hM : fmul x y = P.tdiv 65536 := by
    rw [fmul_eq, eP]
    have := tdiv_bd (n := P) (y := 65536) (B := 288230376151711744) (by decide) (by omega) (by omega)
    exact sat_id ⟨by omega, by omega⟩
  have HM : Hid _ := hM
  have hA : sat (x + y) = x + y := sat_id ⟨by omega, by omega⟩
  have hS : sat (x - y) = x - y := sat_id ⟨by omega, by omega⟩
  have hN : sat (-x) = -x := sat_id ⟨by omega, by omega⟩
  have HA : Hid _ := hA; have HS : Hid _ := hS; have HN : Hid _ := hN
  clear hM hA hS hN
  have hT := tdiv_bd (n := P) (y := 65536) (B := 288230376151711744) (by decide) (by omega) (by omega)
  obtain ⟨D, eD⟩ : ∃ D, P.tdiv 65536 = D := ⟨_, rfl⟩
  rw [eD] at hT
  obtain ⟨D0, D1⟩ := hT
  have HD : Hid (fmul x y = D) := HM.out.trans eD
  clear HM
  go_enter Try.func6, Try.ntmps6
  go_wp2_with fail
  refine (shown_any _).mono ?_; rintro e w1 ⟨rfl, b1⟩
  go_wp2_with fail
  refine (addFn x y Ix Iy _).mono ?_; rintro e w2 ⟨rfl, b2⟩
  rw [HA.out]
  go_wp2_with fail
  refine (subFn x y Ix Iy _).mono ?_; rintro e w3 ⟨rfl, b3⟩
  rw [HS.out]
  go_wp2_with fail
  refine (fixNeg x Ix _).mono ?_; rintro e w4 ⟨rfl, hw4⟩
  rw [hw4, HN.out]
  clear hw4
  go_wp2_with fail
  refine (fixMul x y Ix Iy _).mono ?_; rintro e w5 ⟨rfl, b5⟩
  rw [HD.out]
  have B5 := btrans (btrans (btrans b1 b2) b3) b5
  clear b1 b2 b3 b5 ex ey
  by_cases hz : y = 0
  · have ez : (y == 0) = true := beq_iff_eq.2 hz
    clear hz
    go_wp2
    all_goals (go_ret; exact ⟨rfl, B5⟩)
  · have ez : (y == 0) = false := beq_eq_false_iff_ne.2 hz
    have t1 := tdiv_bd (n := x * 65536) (y := y) (B := 35184372088832) hz (by omega) (by omega)
    have t2 := tdiv_rest (n := x * 65536) hz
    have hq : fdiv x y = (x * 65536).tdiv y := by rw [fdiv_eq hz]; exact sat_id ⟨by omega, by omega⟩
    obtain ⟨Q, eQ⟩ : ∃ Q, (x * 65536).tdiv y = Q := ⟨_, rfl⟩
    rw [eQ] at t1 t2 hq
    have HQ : Hid _ := hq
    obtain ⟨T, eT⟩ : ∃ T, Q * y = T := ⟨_, rfl⟩
    rw [eT] at t2
    obtain ⟨q0, q1⟩ := t1
    obtain ⟨t3, t4⟩ := t2
    have hz' : ¬ y = 0 := hz
    clear hq
    go_wp2_with fail
    refine (fixDiv x y Ix Iy _).mono ?_; rintro e w6 ⟨rfl, b6⟩
    rw [HQ.out]
    have B6 := btrans B5 b6
    clear B5 b6
    rcases Int.lt_or_gt_of_ne hz with hlt | hgt
    · obtain ⟨t5, t6⟩ := t4 hlt
      clear t3 t4 hz
      have T0 : -35184908959744 ≤ T := by omega
      have T1 : T ≤ 35184908959744 := by omega
      go_wp2
      all_goals (go_ret; first | exact ⟨rfl, B6⟩ | exact ⟨ret_bool (by rw [decide_eq_false (by omega)]; simp), B6⟩)
    · obtain ⟨t5, t6⟩ := t3 hgt
      clear t3 t4 hz
      have T0 : -35184908959744 ≤ T := by omega
      have T1 : T ≤ 35184908959744 := by omega
      go_wp2
      all_goals (go_ret; first | exact ⟨rfl, B6⟩ | exact ⟨ret_bool (by rw [decide_eq_false (by omega)]; simp), B6⟩)
end Go.Proofs.Ytfgbkmcbpmmfdaa
