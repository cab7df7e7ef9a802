/- Layer 5 (message): a new row of noughts may be read. -/
import Derived.Test.YtnflpgbmhllnaaaMtW
import Derived.Deep.OwnRows
import Derived.Laws.OwnMore
namespace Go.Proofs.Ytnflpgbmhllnaaa
open Go.RowKit Go.Shelf
set_option linter.unusedVariables false

theorem arg_made {u : World} {M c : Nat} (h : u.heap[M]? = some (.cells (madeCells #[.int .u8 0] c) 5 (0, 0))) (hc : c ≤ 1000000 := by omega) :
    Arg u (some ⟨M, 0, none⟩) (List.replicate c 0).length c fun i => .int .u8 (((List.replicate c 0).getD i 0 : Nat) : Int) := by
  have hl : (List.replicate c 0).length = c := List.length_replicate
  rw [hl]
  refine ⟨Nat.le_refl _, by unfold maxLen; omega, .inr ⟨M, 0, rfl, (Array.getElem?_eq_some_iff.1 h).1, fun i hi => ?_⟩⟩
  rw [Nat.zero_add, cell_of_row u M i _ _ _ h]
  have e1 : (madeCells #[.int .u8 0] c)[i]? = some (.int .u8 0) := by
    rw [← Array.getElem?_toList, toList_madeCells_one, List.getElem?_replicate, if_pos hi]
  have e2 : (List.replicate c 0).getD i 0 = 0 := by
    rw [List.getD_eq_getElem?_getD, List.getElem?_replicate, if_pos hi]; rfl
  rw [e1, e2]
  rfl
end Go.Proofs.Ytnflpgbmhllnaaa
