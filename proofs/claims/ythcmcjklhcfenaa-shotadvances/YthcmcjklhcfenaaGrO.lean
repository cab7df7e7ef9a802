/- Layer 9 (grid): the contracts of the document's own answers Sized, Cell, Solid, meets. -/
import Derived.Test.YthcmcjklhcfenaaGwA
import Derived.Test.YthcmcjklhcfenaaGsR
namespace Go.Proofs.Ythcmcjklhcfenaa
open Go.RowKit
set_option linter.unusedVariables false
set_option linter.unusedSimpArgs false
attribute [local go_sem ↓] Go.wp_at_zero Go.wp_at_succ

end Go.Proofs.Ythcmcjklhcfenaa
