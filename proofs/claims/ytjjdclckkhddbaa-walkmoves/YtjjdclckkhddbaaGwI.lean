/- Layer 9 (grid): a Boolean that tells. -/
import Derived.Test.YtjjdclckkhddbaaGwH
namespace Go.Proofs.Ytjjdclckkhddbaa
set_option linter.unusedVariables false
/-- A Boolean that tells whether something is so. -/
structure Tells (f : Bool) (p : Prop) : Prop where
  iff : f = true ↔ p
end Go.Proofs.Ytjjdclckkhddbaa
