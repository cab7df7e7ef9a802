/- Layer 10 (trace): three Booleans and three numbers beside each other. -/
import Derived.Test.YtjjdclckkhddbaaTrC
namespace Go.Proofs.Ytjjdclckkhddbaa
open Go.RowKit
set_option linter.unusedVariables false
theorem eq3b (a b c d e f : Bool) (W : World) : Sem.run Try.prog (Op.equalIn 10000 57 (.agg #[.bool a, .bool b, .bool c]) (.agg #[.bool d, .bool e, .bool f])) W = .ok (a == d && b == e && c == f) W := by
  cases a <;> cases b <;> cases c <;> cases d <;> cases e <;> cases f <;> kernel_rfl
end Go.Proofs.Ytjjdclckkhddbaa
