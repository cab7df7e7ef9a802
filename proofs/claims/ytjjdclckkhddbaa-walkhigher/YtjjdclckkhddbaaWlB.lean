/- Layer 11 (walk): a button set, and taken away. -/
import Derived.Test.YtjjdclckkhddbaaWlA
namespace Go.Proofs.Ytjjdclckkhddbaa
open Go.RowKit
set_option linter.unusedVariables false

theorem or_u8 {n : Nat} (h : n < 256) : bits .or .u8 (n : Int) 1 = ((n ||| 1 : Nat) : Int) := by
  have := (by decide +kernel : ∀ b : Fin 256, bits .or .u8 ((b.val : Nat) : Int) 1 = ((b.val ||| 1 : Nat) : Int)) ⟨n, h⟩
  exact this
theorem andNot_u8 {n : Nat} (h : n < 256) : bits .andNot .u8 (n : Int) 1 = ((n &&& 254 : Nat) : Int) := by
  have := (by decide +kernel : ∀ b : Fin 256, bits .andNot .u8 ((b.val : Nat) : Int) 1 = ((b.val &&& 254 : Nat) : Int)) ⟨n, h⟩
  exact this
end Go.Proofs.Ytjjdclckkhddbaa
