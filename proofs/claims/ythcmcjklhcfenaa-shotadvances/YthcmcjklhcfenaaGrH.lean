/- Layer 9 (grid): the contract of (line).step. -/
import Derived.Test.YthcmcjklhcfenaaGrG
import Derived.Deep.DeepCutAuto
import Derived.Deep.CutBlock
namespace Go.Proofs.Ythcmcjklhcfenaa
open Go.RowKit
set_option linter.unusedVariables false
set_option linter.unusedSimpArgs false
attribute [local go_sem ↓] Go.wp_at_zero Go.wp_at_succ

theorem B3.fr {w w' : World} {S : Nat → Prop} {b : Nat} {t : TypeId} {x y z : Int} (h : B3 w b t x y z) (hf : Fr S w w') (hS : ¬ S b) : B3 w' b t x y z := ⟨by rw [hf.block b h.lt hS]; exact h.obj⟩
def stp3 (f t c : Int) (r : Bool) (n1 n2 n3 : Int) : Int := if stpB f t c r n1 n2 n3 then stepC f t c else c
def stU (i j : Nat) (s k : Int) : Int := if j < i then s else k
end Go.Proofs.Ythcmcjklhcfenaa
