/- Layer 10 (trace): three Booleans and three numbers beside each other. -/
import Derived.Test.YthcmcjklhcfenaaTrC
namespace Go.Proofs.Ythcmcjklhcfenaa
open Go.RowKit
set_option linter.unusedVariables false
end Go.Proofs.Ythcmcjklhcfenaa
