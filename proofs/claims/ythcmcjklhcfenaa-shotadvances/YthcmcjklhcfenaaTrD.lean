/- Layer 10 (trace): the contract of the document's own Slide. -/
import Derived.Test.YthcmcjklhcfenaaTrC
namespace Go.Proofs.Ythcmcjklhcfenaa
open Go.RowKit
set_option linter.unusedVariables false
set_option linter.unusedSimpArgs false
attribute [local go_sem ↓] Go.wp_at_zero Go.wp_at_succ

end Go.Proofs.Ythcmcjklhcfenaa
