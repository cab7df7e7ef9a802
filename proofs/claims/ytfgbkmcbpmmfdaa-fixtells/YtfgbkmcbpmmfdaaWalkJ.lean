/- Layer 1 (fix): the walk of the law FixTells. -/
import Derived.Test.YtfgbkmcbpmmfdaaFixMath
import Derived.Test.YtfgbkmcbpmmfdaaFixK
import Derived.Test.YtfgbkmcbpmmfdaaRefJ
import Derived.Test.YtfgbkmcbpmmfdaaRefL
namespace Go.Proofs.Ytfgbkmcbpmmfdaa
open Go.RowKit
set_option linter.unusedVariables false

set_option maxHeartbeats 2000000 in
theorem fixTells_walk (a b : Int) (ha : I64 a) (hb : I64 b) (w : World) :
    Calls Try.prog 3 #[.int .i64 a, .int .i64 b] w fun e w' => e = .returned (.bool true) ∧ Below w.heap.size w w' := by
  have f1 := addFn a b ha hb; have g1 := refAdd a b ha hb
  have f2 := subFn a b ha hb; have g2 := refSub a b ha hb
  have f3 := fun w => (fixNeg a ha w); have g3 := refNeg a ha
  have f4 := fixMul a b ha hb; have g4 := refMul a b ha hb
  have f5 := fixDiv a b ha hb; have g5 := refDiv a b ha hb
  have f6 := fixSqrt a ha; have g6 := refSqrt a ha
  generalize sat (a + b) = r1 at f1 g1
  generalize sat (a - b) = r2 at f2 g2
  generalize sat (-a) = r3 at f3 g3
  generalize fmul a b = r4 at f4 g4
  generalize fdiv a b = r5 at f5 g5
  generalize fsqrt a = r6 at f6 g6
  go_enter Try.func3, Try.ntmps3
  go_wp2_with fail
  refine (shown_any _).mono ?_; rintro e w0 ⟨rfl, b0⟩
  go_wp2_with fail
  refine (f1 _).mono ?_; rintro e w1 ⟨rfl, b1⟩
  go_wp2_with fail
  refine (g1 _).mono ?_; rintro e w2 ⟨rfl, b2⟩
  have B := btrans (btrans b0 b1) b2
  clear b0 b1 b2
  go_wp2_with fail
  refine (f2 _).mono ?_; rintro e w1 ⟨rfl, b1⟩
  go_wp2_with fail
  refine (g2 _).mono ?_; rintro e w2 ⟨rfl, b2⟩
  replace B := btrans (btrans B b1) b2
  clear b1 b2
  go_wp2_with fail
  refine (f3 _).mono ?_; rintro e w' ⟨rfl, rfl⟩
  go_wp2_with fail
  refine (g3 _).mono ?_; rintro e w2 ⟨rfl, b2⟩
  replace B := btrans B b2
  clear b2
  go_wp2_with fail
  refine (f4 _).mono ?_; rintro e w1 ⟨rfl, b1⟩
  go_wp2_with fail
  refine (g4 _).mono ?_; rintro e w2 ⟨rfl, b2⟩
  replace B := btrans (btrans B b1) b2
  clear b1 b2
  go_wp2_with fail
  refine (f5 _).mono ?_; rintro e w1 ⟨rfl, b1⟩
  go_wp2_with fail
  refine (g5 _).mono ?_; rintro e w2 ⟨rfl, b2⟩
  replace B := btrans (btrans B b1) b2
  clear b1 b2
  go_wp2_with fail
  refine (f6 _).mono ?_; rintro e w1 ⟨rfl, b1⟩
  go_wp2_with fail
  refine (g6 _).mono ?_; rintro e w2 ⟨rfl, b2⟩
  replace B := btrans (btrans B b1) b2
  clear b1 b2
  go_wp2
  go_ret
  exact ⟨rfl, B⟩
end Go.Proofs.Ytfgbkmcbpmmfdaa
