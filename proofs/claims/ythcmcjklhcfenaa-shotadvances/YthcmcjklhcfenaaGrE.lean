/- Layer 9 (grid): the contract of between. -/
import Derived.Test.YthcmcjklhcfenaaGrD
import Derived.Test.YthcmcjklhcfenaaGrZ
namespace Go.Proofs.Ythcmcjklhcfenaa
open Go.RowKit
set_option linter.unusedVariables false
set_option linter.unusedSimpArgs false
attribute [local go_sem ↓] Go.wp_at_zero Go.wp_at_succ

end Go.Proofs.Ythcmcjklhcfenaa
