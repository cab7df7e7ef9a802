/- Layer 9 (grid): the contracts of Sight's closure and of (line).step. -/
import Derived.Test.YthcmcjklhcfenaaGrF
namespace Go.Proofs.Ythcmcjklhcfenaa
open Go.RowKit
set_option linter.unusedVariables false
set_option linter.unusedSimpArgs false
attribute [local go_sem ↓] Go.wp_at_zero Go.wp_at_succ

def stpB (f t c : Int) (r : Bool) (n1 n2 n3 : Int) : Bool := decide (decide (f < t) = r ∧ Goes t c ∧ edgeI f t c * longI n1 n2 = edgeI n1 n2 n3 * longI f t)
theorem cmpI_eq {a b : Int} : cmpI a b = 0 ↔ a = b := by unfold cmpI; split <;> (try split) <;> omega
end Go.Proofs.Ythcmcjklhcfenaa
