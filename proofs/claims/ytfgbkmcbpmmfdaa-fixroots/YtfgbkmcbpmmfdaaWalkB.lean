/- Layer 1 (fix): the walk of the law FixRoots. -/
import Derived.Test.YtfgbkmcbpmmfdaaFixMath
namespace Go.Proofs.Ytfgbkmcbpmmfdaa
open Go.RowKit
set_option linter.unusedVariables false

theorem max6_run (x y z : Int) (W : World) : ∃ M, (M = x ∨ M = -x ∨ M = y ∨ M = -y ∨ M = z ∨ M = -z) ∧ ∀ ts t W, (Builtin.max_ ts t #[.int .i64 x, .int .i64 (-x), .int .i64 y, .int .i64 (-y), .int .i64 z, .int .i64 (-z)]).run Try.prog W = .ok (.int .i64 M) W := by
  refine ⟨mx (mx (mx (mx (mx x (-x)) y) (-y)) z) (-z), ?_, fun ts t W => ?_⟩
  · unfold mx; repeat' split
    all_goals omega
  · simp [Builtin.max_, Builtin.max2, mx]
theorem max2_run (x : Int) (ts : Array TypeId) (t : TypeId) (W : World) : (Builtin.max_ ts t #[.int .i64 x, .int .i64 (-x)]).run Try.prog W = .ok (.int .i64 (mag x)) W := by
  rw [run_max_int2, ← mx_neg]; rfl

set_option maxHeartbeats 2000000 in
theorem fixRoots_walk (a x y z : Int) (ha : I64 a) (hx : I32 x) (hy : I32 y) (hz : I32 z) (w : World) :
    Calls Try.prog 7 #[.int .i64 a, .int .i32 x, .int .i32 y, .int .i32 z] w fun e w' => e = .returned (.bool true) ∧ Below w.heap.size w w' := by
  have hm := and_mask60 a
  obtain ⟨A, hA⟩ : ∃ A, a % 1152921504606846976 = A := ⟨_, rfl⟩
  have A0 : 0 ≤ A := by omega
  have A1 : A < 1152921504606846976 := by omega
  rw [hA] at hm
  clear hA
  have hAi : I64 A := ⟨by omega, by omega⟩
  go_enter Try.func7, Try.ntmps7
  go_wp2_with fail
  refine (shown_any _).mono ?_; rintro e w1 ⟨rfl, b1⟩
  go_wp2_with fail
  refine (fixSqrt A hAi _).mono ?_; rintro e w2 ⟨rfl, b2⟩
  generalize hr : fsqrt A = r
  obtain ⟨r0, r1, u, o, p1, q1, p2, q2, p3, q3, p4, q4⟩ := root_law A0 A1 hr.symm
  clear hr
  have B2 := btrans b1 b2
  clear b1 b2
  have x0 := hx.lo; have x1 := hx.hi; have y0 := hy.lo; have y1 := hy.hi; have z0 := hz.lo; have z1 := hz.hi
  have jx : I64 x := ⟨by omega, by omega⟩
  have jy : I64 y := ⟨by omega, by omega⟩
  have jz : I64 z := ⟨by omega, by omega⟩
  have jn : I64 (-x) := ⟨by omega, by omega⟩
  go_wp2_with fail
  refine (fixLong x y z jx jy jz _).mono ?_; rintro e w3 ⟨rfl, b3⟩
  have c0 := keepCell (o := 0) b3 (b := w2.heap.size) (x := .int .i64 x) (by simp) (by simp [go_sem])
  have c1 := keepCell (o := 1) b3 (b := w2.heap.size) (x := .int .i64 y) (by simp) (by simp [go_sem])
  have c2 := keepCell (o := 2) b3 (b := w2.heap.size) (x := .int .i64 z) (by simp) (by simp [go_sem])
  have B3 : Below w.heap.size w w3 := (B2.alloc B2.size _).trans (b3.mono (by have := B2.size; simp; omega))
  clear b3
  have ht : flong (-x) z y = flong x y z := flong_turn x y z
  generalize hn : flong x y z = n at *
  obtain ⟨n0, n1, n2, n3, n4, n5⟩ := long_law hx hy hz hn.symm
  have HT : Hid (flong (-x) z y = n) := ht
  clear ht hn
  have mx0 := mag_nonneg x; have my0 := mag_nonneg y; have mz0 := mag_nonneg z
  obtain ⟨M, hM, K6⟩ := max6_run x y z w
  have hMn : M ≤ n := by
    have e1 : x ≤ mag x ∧ -x ≤ mag x := by unfold mag; split <;> omega
    have e2 : y ≤ mag y ∧ -y ≤ mag y := by unfold mag; split <;> omega
    have e3 : z ≤ mag z ∧ -z ≤ mag z := by unfold mag; split <;> omega
    omega
  clear hM
  have kx := max2_run x; have ky := max2_run y; have kz := max2_run z
  have hs : mag x + mag y ≤ 4294967296 := by unfold mag; split <;> split <;> omega
  have hs2 : mag x + mag y + mag z ≤ 8589934592 := by unfold mag; split <;> split <;> split <;> omega
  go_wp2_with fail
  refine (fixLong (-x) z y jn jz jy _).mono ?_; rintro e w4 ⟨rfl, b4⟩
  rw [HT.out]
  have B4 := btrans B3 b4
  clear b4 kx ky kz K6
  go_wp2
  go_ret
  exact ⟨rfl, B4⟩
end Go.Proofs.Ytfgbkmcbpmmfdaa
