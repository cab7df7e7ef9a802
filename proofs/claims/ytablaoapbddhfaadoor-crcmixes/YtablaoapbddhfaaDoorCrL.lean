/- Layer 4 (crc): what the rows' condition tells the walks: the table lies as it was laid. -/
import Derived.Test.YtablaoapbddhfaaDoorCrA
import Derived.Test.YtablaoapbddhfaaDoorBtArg
import Derived.LaidMore
import Derived.Stop.Joined
import Derived.Lib.LaidTab
import Derived.SevenTiedAt
namespace Go.Proofs.YtablaoapbddhfaaDoor
open Go.ChangeShapes Go.WideShapes Go.ChangeAt Go.RowKit Go.Joins
set_option linter.unusedVariables false

def laidC : List (String × DataW Unit) := [("embrasure/crc.turns", Rows.laid_embrasure_crc_turns)]
theorem gTurns : Tryd.prog.globalNamed "embrasure/crc.turns" = some 0 := by kernel_rfl
theorem tTurns : (Tryd.prog.globals[0]?).map (·.type) = some 37 := by kernel_rfl
theorem door_met (os : Os) (args : Array Value) : laidMetH Tryd.prog laidC ((World.doorLaid Tryd.prog 400 os).forCall (fun _ _ => 0) ⟨#[], args, []⟩).memory :=
  laidMetH_of_parts3 (fuel := 8) (laidMet_of_run' 8 (by kernel_rfl) (by kernel_rfl)) (by kernel_rfl) (by kernel_rfl)
theorem tab_of_laid {W : World} (h : laidMetH Tryd.prog laidC W) : Tab W := by
  rw [MakeChecks.laidMetH_plain _ _ _ (by kernel_rfl)] at h
  have hT := Lib.tabIs_of_head (k := .u16) (zs := turnsL) gTurns tTurns Tryd.underlying37 Tryd.underlying23 (by kernel_rfl) (by kernel_rfl) h
  have hc : ∀ i, i < 16 → W.cell? ⟨0, i, none⟩ = some (.int .u16 ((tab i : Nat) : Int)) := fun i hi => by
    rw [hT.cell gTurns i hi, tab_int ⟨i, hi⟩]
  exact ⟨World.block_lt_of_cell? _ _ (hc 0 (by decide)), hc⟩
end Go.Proofs.YtablaoapbddhfaaDoor
