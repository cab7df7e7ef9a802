/- Layer 9 (grid): a Boolean that tells. -/
import Derived.Test.YthcmcjklhcfenaaGwH
namespace Go.Proofs.Ythcmcjklhcfenaa
set_option linter.unusedVariables false
/-- A Boolean that tells whether something is so. -/
structure Tells (f : Bool) (p : Prop) : Prop where
  iff : f = true ↔ p
end Go.Proofs.Ythcmcjklhcfenaa
