/- Layer 10 (trace): the contract of Slide. -/
import Derived.Test.YthcmcjklhcfenaaTrB
namespace Go.Proofs.Ythcmcjklhcfenaa
open Go.RowKit
set_option linter.unusedVariables false
set_option linter.unusedSimpArgs false
attribute [local go_sem ↓] Go.wp_at_zero Go.wp_at_succ

/-- How far it has come, behind so many axes. -/
inductive SlI (x y z x1 y1 z1 : Int) (b1 b2 b3 : Bool) : Nat → Int → Int → Int → Bool → Bool → Bool → Prop
  | s0 : SlI x y z x1 y1 z1 b1 b2 b3 0 x y z false false false
  | s1 : SlI x y z x1 y1 z1 b1 b2 b3 1 x1 y z b1 false false
  | s2 : SlI x y z x1 y1 z1 b1 b2 b3 2 x1 y1 z b1 b2 false
  | s3 : SlI x y z x1 y1 z1 b1 b2 b3 3 x1 y1 z1 b1 b2 b3
theorem idx3p (p0 p1 p2 : Value) : (∀ w, (Instr.index 64 (.agg #[p0, p1, p2]) (.int .i64 0)).run Try.prog w = .ok p0 w) ∧ (∀ w, (Instr.index 64 (.agg #[p0, p1, p2]) (.int .i64 1)).run Try.prog w = .ok p1 w) ∧ (∀ w, (Instr.index 64 (.agg #[p0, p1, p2]) (.int .i64 2)).run Try.prog w = .ok p2 w) :=
  ⟨fun _ => by kernel_rfl, fun _ => by kernel_rfl, fun _ => by kernel_rfl⟩

end Go.Proofs.Ythcmcjklhcfenaa
