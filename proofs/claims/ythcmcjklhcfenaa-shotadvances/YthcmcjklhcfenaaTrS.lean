/- Layer 10 (trace): small; what must be in any case (shown). -/
import Derived.Test.YthcmcjklhcfenaaTrE
import Derived.Deep.OwnRows
namespace Go.Proofs.Ythcmcjklhcfenaa
open Go.RowKit Go.Shelf
set_option linter.unusedVariables false
set_option linter.unusedSimpArgs false
attribute [local go_sem ↓] Go.wp_at_zero Go.wp_at_succ

theorem Bs.made {w : World} {g n : Nat} (h : w.heap[g]? = some (.cells (madeCells #[.bool false] n) 4 (0, 0))) (hn : n ≤ maxLen) : Bs w g n n nof :=
  ⟨Nat.le_refl _, hn, _, h, fun i hi => by
    rw [← Array.getElem?_toList, toList_madeCells_one]
    simp [hi, nof]⟩
/-- The room of two cells. -/
def twoM : Mp := mpOf 2 2 2 8 (turnAt nof 1 true)
theorem two_sized : twoM.Sized := by simp [twoM, Mp.Sized, mpOf]
theorem two_a : twoM.Room 32768 32768 65536 := by
  intro _ _ _ x y z a1 a2 a3 a4 a5 a6
  simp [sat] at a1 a2 a3 a4 a5 a6
  have ex : x = 0 := by omega
  have ey : y = 0 := by omega
  have ez : z = 0 ∨ z = 1 := by omega
  subst ex; subst ey
  rcases ez with rfl | rfl <;> decide
theorem two_c : twoM.Room 32768 65536 65536 := by
  intro _ _ _ x y z a1 a2 a3 a4 a5 a6
  simp [sat] at a1 a2 a3 a4 a5 a6
  have ex : x = 0 := by omega
  have ey : y = 0 ∨ y = 1 := by omega
  have ez : z = 0 ∨ z = 1 := by omega
  subst ex
  rcases ey with rfl | rfl <;> rcases ez with rfl | rfl <;> decide
theorem two_b : ¬ twoM.Room 65536 32768 65536 := fun h => by
  have := h (by decide) (by decide) (by decide) 1 0 0 (by decide) (by decide) (by decide) (by decide) (by decide) (by decide)
  exact absurd this (by decide)
theorem two_d : ¬ twoM.Room 0 0 0 := fun h => by
  have := (h.inside ⟨by omega, by omega⟩ ⟨by omega, by omega⟩ ⟨by omega, by omega⟩).2.1.1
  omega
theorem two_slid {R : Int → Int → Int → Bool} (hR : ∀ x y z, R x y z = true ↔ twoM.Room x y z) : Slid R 32768 32768 65536 (fclamp 32768 32768) (fclamp 32768 32768) (fclamp 0 32768) 32768 65536 65536 true false false := by
  have ra : R 32768 65536 65536 = true := (hR _ _ _).2 two_c
  have rb : R 65536 32768 65536 = false := by
    cases h : R 65536 32768 65536 with
    | false => rfl
    | true => exact absurd ((hR _ _ _).1 h) two_b
  rw [show fclamp 32768 32768 = 32768 by decide, show fclamp 0 32768 = 0 by decide]
  have s1 : sat (32768 + 32768) = 65536 := by decide
  have s2 : sat (65536 + 0) = 65536 := by decide
  refine ⟨?_, ?_, ?_, ?_, ?_, ?_⟩
  · rw [s1, rb]; rfl
  · rw [s1, ra]; decide
  · rw [s2, ra]; decide
  · rw [s1, rb]; rfl
  · rw [s1, ra]; rfl
  · rw [s2, ra]; rfl

end Go.Proofs.Ythcmcjklhcfenaa
