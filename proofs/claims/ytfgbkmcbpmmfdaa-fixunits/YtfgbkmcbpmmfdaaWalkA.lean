/- Layer 1 (fix): the walk of the law FixUnits. -/
import Derived.Test.YtfgbkmcbpmmfdaaFixMath
namespace Go.Proofs.Ytfgbkmcbpmmfdaa
open Go.RowKit
set_option linter.unusedVariables false

set_option maxHeartbeats 2000000 in
theorem fixUnits_walk (a1 a2 a3 n : Int) (h1 : I64 a1) (h2 : I64 a2) (h3 : I64 a3) (hn : I64 n) (w : World) :
    Calls Try.prog 13 #[.agg #[.int .i64 a1, .int .i64 a2, .int .i64 a3], .int .i64 n] w fun e w' => e = .returned (.bool true) ∧ Below w.heap.size w w' := by
  obtain ⟨s, hs⟩ : ∃ s, (if n < sat (-n) then sat (-n) else n) = s := ⟨_, rfl⟩
  have hx := flong_x hn; have hy := flong_y hn; have hz := flong_z hn
  rw [hs] at hx hy hz
  have HX : Hid (flong n 0 0 = s) := hx
  have HY : Hid (flong 0 n 0 = s) := hy
  have HZ : Hid (flong 0 0 n = s) := hz
  have dx : fdot a1 a2 a3 65536 0 0 = a1 := fdot_whole (by omega) h1
  have dy : fdot a1 a2 a3 0 65536 0 = a2 := fdot_whole (by omega) h2
  have dz : fdot 0 0 65536 a1 a2 a3 = a3 := fdot_whole (by omega) h3
  clear hx hy hz
  have DX : Hid _ := dx
  have DY : Hid _ := dy
  have DZ : Hid _ := dz
  have HS : Hid _ := hs
  clear dx dy dz hs
  go_enter Try.func13, Try.ntmps13
  go_wp2_with fail
  refine (shown_any _).mono ?_; rintro e w1 ⟨rfl, b1⟩
  have c0 := keepCell (o := 0) b1 (b := w.heap.size) (x := .int .i64 a1) (by simp) (by simp [go_sem])
  have c1 := keepCell (o := 1) b1 (b := w.heap.size) (x := .int .i64 a2) (by simp) (by simp [go_sem])
  have c2 := keepCell (o := 2) b1 (b := w.heap.size) (x := .int .i64 a3) (by simp) (by simp [go_sem])
  have z1 : w.heap.size < w1.heap.size := by have := b1.size; simp at this; omega
  have B1 : Below w.heap.size w w1 := ((Below.refl _ _).alloc (Nat.le_refl _) _).trans (b1.mono (by simp))
  clear b1
  go_wp2_with fail
  refine (fixDot a1 a2 a3 65536 0 0 h1 h2 h3 i64_of i64_of i64_of _).mono ?_; rintro e w2 ⟨rfl, b2⟩
  rw [DX.out]
  have B2 := btrans B1 b2
  have c0 := keepCell b2 z1 c0; have c1 := keepCell b2 z1 c1; have c2 := keepCell b2 z1 c2
  have z2 := Nat.lt_of_lt_of_le z1 b2.size
  clear b2
  go_wp2_with fail
  refine (fixDot a1 a2 a3 0 65536 0 h1 h2 h3 i64_of i64_of i64_of _).mono ?_; rintro e w3 ⟨rfl, b3⟩
  rw [DY.out]
  have B3 := btrans B2 b3
  have c0 := keepCell b3 z2 c0; have c1 := keepCell b3 z2 c1; have c2 := keepCell b3 z2 c2
  have z3 := Nat.lt_of_lt_of_le z2 b3.size
  clear b3
  go_wp2_with fail
  refine (fixDot 0 0 65536 a1 a2 a3 i64_of i64_of i64_of h1 h2 h3 _).mono ?_; rintro e w4 ⟨rfl, b4⟩
  rw [DZ.out]
  have B4 := btrans B3 b4
  have c0 := keepCell b4 z3 c0; have c1 := keepCell b4 z3 c1; have c2 := keepCell b4 z3 c2
  have z4 := Nat.lt_of_lt_of_le z3 b4.size
  clear b4
  go_wp2_with fail
  refine (fixNeg n hn _).mono ?_; rintro e w5 ⟨rfl, hw5⟩
  rw [hw5]
  clear hw5
  have K : ∀ W, (Builtin.max_ #[2, 2] 2 #[.int .i64 n, .int .i64 (sat (-n))]).run Try.prog W = .ok (.int .i64 s) W := by
    intro W; rw [run_max_int2]; rw [← HS.out]
  go_wp2_with fail
  refine (fixLong n 0 0 hn i64_of i64_of _).mono ?_; rintro e w6 ⟨rfl, b6⟩
  rw [HX.out]
  have B6 := btrans B4 b6
  clear b6 c0 c1 c2
  go_wp2_with fail
  refine (fixLong 0 n 0 i64_of hn i64_of _).mono ?_; rintro e w7 ⟨rfl, b7⟩
  rw [HY.out]
  have B7 := btrans B6 b7
  clear b7
  go_wp2_with fail
  refine (fixLong 0 0 n i64_of i64_of hn _).mono ?_; rintro e w8 ⟨rfl, b8⟩
  rw [HZ.out]
  have B8 := btrans B7 b8
  clear b8
  go_wp2
  go_ret
  exact ⟨rfl, B8⟩
end Go.Proofs.Ytfgbkmcbpmmfdaa
