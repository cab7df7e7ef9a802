/- Layer 1's own answers: Clamp, beside GsR -/
import Derived.Test.YthcmcjklhcfenaaGsR
import Derived.WalkKit
import Derived.WalkSpells
import Derived.WalkLawsBesides
import Derived.LoopTactic
import Derived.BigQuiet
import Derived.Deep.QuietTactic
import Derived.Deep.OwnRows
import Derived.Deep.RegionHeld3
import Derived.Deep.DrawnRows
import Derived.Deep.AppendLies
import Derived.Deep.DeepCutAuto
import Derived.Deep.CutBlock
import Derived.Test.YthcmcjklhcfenaaTsE
namespace Go.Proofs.Ythcmcjklhcfenaa
open Go.RowKit
set_option linter.unusedVariables false
attribute [local go_sem ↓] Go.wp_at_zero Go.wp_at_succ

theorem keepV {w W w1 : World} {a1 a2 a3 : Int} (hb : Below W.heap.size W w1) (h : w.heap.size + 1 < W.heap.size ∧ W.cell? ⟨w.heap.size, 0, none⟩ = some (.int .i64 a1) ∧ W.cell? ⟨w.heap.size, 1, none⟩ = some (.int .i64 a2) ∧ W.cell? ⟨w.heap.size, 2, none⟩ = some (.int .i64 a3) ∧ W.cell? ⟨w.heap.size + 1, 0, none⟩ = some (rdF W (w.heap.size + 1) 0) ∧ W.cell? ⟨w.heap.size + 1, 1, none⟩ = some (rdF W (w.heap.size + 1) 1) ∧ W.cell? ⟨w.heap.size + 1, 2, none⟩ = some (rdF W (w.heap.size + 1) 2) ∧ W.frozen? ⟨w.heap.size + 1, 0, none⟩ = false ∧ W.frozen? ⟨w.heap.size + 1, 1, none⟩ = false ∧ W.frozen? ⟨w.heap.size + 1, 2, none⟩ = false ∧ Below w.heap.size w W) :
    w.heap.size + 1 < w1.heap.size ∧ w1.cell? ⟨w.heap.size, 0, none⟩ = some (.int .i64 a1) ∧ w1.cell? ⟨w.heap.size, 1, none⟩ = some (.int .i64 a2) ∧ w1.cell? ⟨w.heap.size, 2, none⟩ = some (.int .i64 a3) ∧ w1.cell? ⟨w.heap.size + 1, 0, none⟩ = some (rdF w1 (w.heap.size + 1) 0) ∧ w1.cell? ⟨w.heap.size + 1, 1, none⟩ = some (rdF w1 (w.heap.size + 1) 1) ∧ w1.cell? ⟨w.heap.size + 1, 2, none⟩ = some (rdF w1 (w.heap.size + 1) 2) ∧ w1.frozen? ⟨w.heap.size + 1, 0, none⟩ = false ∧ w1.frozen? ⟨w.heap.size + 1, 1, none⟩ = false ∧ w1.frozen? ⟨w.heap.size + 1, 2, none⟩ = false ∧ Below w.heap.size w w1 := by
  obtain ⟨h0, h1, h2, h3, h4, h5, h6, h7, h8, h9, h10⟩ := h
  exact ⟨Nat.lt_of_lt_of_le h0 hb.size, keepCell hb (by omega) h1, keepCell hb (by omega) h2, keepCell hb (by omega) h3, rd_ofF (keepCell hb (by omega) h4), rd_ofF (keepCell hb (by omega) h5), rd_ofF (keepCell hb (by omega) h6), keepFrozen hb (by omega) h7, keepFrozen hb (by omega) h8, keepFrozen hb (by omega) h9, h10.trans (hb.mono (by omega))⟩
theorem setV {w W : World} {a1 a2 a3 : Int} (x y z : Value) (h : w.heap.size + 1 < W.heap.size ∧ W.cell? ⟨w.heap.size, 0, none⟩ = some (.int .i64 a1) ∧ W.cell? ⟨w.heap.size, 1, none⟩ = some (.int .i64 a2) ∧ W.cell? ⟨w.heap.size, 2, none⟩ = some (.int .i64 a3) ∧ W.cell? ⟨w.heap.size + 1, 0, none⟩ = some (rdF W (w.heap.size + 1) 0) ∧ W.cell? ⟨w.heap.size + 1, 1, none⟩ = some (rdF W (w.heap.size + 1) 1) ∧ W.cell? ⟨w.heap.size + 1, 2, none⟩ = some (rdF W (w.heap.size + 1) 2) ∧ W.frozen? ⟨w.heap.size + 1, 0, none⟩ = false ∧ W.frozen? ⟨w.heap.size + 1, 1, none⟩ = false ∧ W.frozen? ⟨w.heap.size + 1, 2, none⟩ = false ∧ Below w.heap.size w W) :
    w.heap.size + 1 < (((W.setCell ⟨w.heap.size + 1, 0, none⟩ x).setCell ⟨w.heap.size + 1, 1, none⟩ y).setCell ⟨w.heap.size + 1, 2, none⟩ z).heap.size ∧ (((W.setCell ⟨w.heap.size + 1, 0, none⟩ x).setCell ⟨w.heap.size + 1, 1, none⟩ y).setCell ⟨w.heap.size + 1, 2, none⟩ z).cell? ⟨w.heap.size, 0, none⟩ = some (.int .i64 a1) ∧ (((W.setCell ⟨w.heap.size + 1, 0, none⟩ x).setCell ⟨w.heap.size + 1, 1, none⟩ y).setCell ⟨w.heap.size + 1, 2, none⟩ z).cell? ⟨w.heap.size, 1, none⟩ = some (.int .i64 a2) ∧ (((W.setCell ⟨w.heap.size + 1, 0, none⟩ x).setCell ⟨w.heap.size + 1, 1, none⟩ y).setCell ⟨w.heap.size + 1, 2, none⟩ z).cell? ⟨w.heap.size, 2, none⟩ = some (.int .i64 a3) ∧ (((W.setCell ⟨w.heap.size + 1, 0, none⟩ x).setCell ⟨w.heap.size + 1, 1, none⟩ y).setCell ⟨w.heap.size + 1, 2, none⟩ z).cell? ⟨w.heap.size + 1, 0, none⟩ = some (rdF (((W.setCell ⟨w.heap.size + 1, 0, none⟩ x).setCell ⟨w.heap.size + 1, 1, none⟩ y).setCell ⟨w.heap.size + 1, 2, none⟩ z) (w.heap.size + 1) 0) ∧ (((W.setCell ⟨w.heap.size + 1, 0, none⟩ x).setCell ⟨w.heap.size + 1, 1, none⟩ y).setCell ⟨w.heap.size + 1, 2, none⟩ z).cell? ⟨w.heap.size + 1, 1, none⟩ = some (rdF (((W.setCell ⟨w.heap.size + 1, 0, none⟩ x).setCell ⟨w.heap.size + 1, 1, none⟩ y).setCell ⟨w.heap.size + 1, 2, none⟩ z) (w.heap.size + 1) 1) ∧ (((W.setCell ⟨w.heap.size + 1, 0, none⟩ x).setCell ⟨w.heap.size + 1, 1, none⟩ y).setCell ⟨w.heap.size + 1, 2, none⟩ z).cell? ⟨w.heap.size + 1, 2, none⟩ = some (rdF (((W.setCell ⟨w.heap.size + 1, 0, none⟩ x).setCell ⟨w.heap.size + 1, 1, none⟩ y).setCell ⟨w.heap.size + 1, 2, none⟩ z) (w.heap.size + 1) 2) ∧ (((W.setCell ⟨w.heap.size + 1, 0, none⟩ x).setCell ⟨w.heap.size + 1, 1, none⟩ y).setCell ⟨w.heap.size + 1, 2, none⟩ z).frozen? ⟨w.heap.size + 1, 0, none⟩ = false ∧ (((W.setCell ⟨w.heap.size + 1, 0, none⟩ x).setCell ⟨w.heap.size + 1, 1, none⟩ y).setCell ⟨w.heap.size + 1, 2, none⟩ z).frozen? ⟨w.heap.size + 1, 1, none⟩ = false ∧ (((W.setCell ⟨w.heap.size + 1, 0, none⟩ x).setCell ⟨w.heap.size + 1, 1, none⟩ y).setCell ⟨w.heap.size + 1, 2, none⟩ z).frozen? ⟨w.heap.size + 1, 2, none⟩ = false ∧ Below w.heap.size w (((W.setCell ⟨w.heap.size + 1, 0, none⟩ x).setCell ⟨w.heap.size + 1, 1, none⟩ y).setCell ⟨w.heap.size + 1, 2, none⟩ z) := by
  obtain ⟨h0, h1, h2, h3, h4, h5, h6, h7, h8, h9, h10⟩ := h
  exact ⟨by simpa [World.setCell] using h0,
    old_set (old_set (old_set h1 (by omega)) (by omega)) (by omega),
    old_set (old_set (old_set h2 (by omega)) (by omega)) (by omega),
    old_set (old_set (old_set h3 (by omega)) (by omega)) (by omega),
    (by obtain ⟨_, k1⟩ := some_set (a := ⟨w.heap.size + 1, 0, none⟩) (x := x) h4; obtain ⟨_, k2⟩ := some_set (a := ⟨w.heap.size + 1, 1, none⟩) (x := y) k1; obtain ⟨_, k3⟩ := some_set (a := ⟨w.heap.size + 1, 2, none⟩) (x := z) k2; exact rd_ofF k3),
    (by obtain ⟨_, k1⟩ := some_set (a := ⟨w.heap.size + 1, 0, none⟩) (x := x) h5; obtain ⟨_, k2⟩ := some_set (a := ⟨w.heap.size + 1, 1, none⟩) (x := y) k1; obtain ⟨_, k3⟩ := some_set (a := ⟨w.heap.size + 1, 2, none⟩) (x := z) k2; exact rd_ofF k3),
    (by obtain ⟨_, k1⟩ := some_set (a := ⟨w.heap.size + 1, 0, none⟩) (x := x) h6; obtain ⟨_, k2⟩ := some_set (a := ⟨w.heap.size + 1, 1, none⟩) (x := y) k1; obtain ⟨_, k3⟩ := some_set (a := ⟨w.heap.size + 1, 2, none⟩) (x := z) k2; exact rd_ofF k3),
    (by rw [World.frozen?_setCell, World.frozen?_setCell, World.frozen?_setCell]; exact h7),
    (by rw [World.frozen?_setCell, World.frozen?_setCell, World.frozen?_setCell]; exact h8),
    (by rw [World.frozen?_setCell, World.frozen?_setCell, World.frozen?_setCell]; exact h9),
    ((h10.setCell (by simp) _).setCell (by simp) _).setCell (by simp) _⟩
theorem startV {w : World} {a1 a2 a3 : Int} (t : TypeId) :
    w.heap.size + 1 < (((w.alloc (.cells #[.int .i64 a1, .int .i64 a2, .int .i64 a3] t)).alloc (.cells #[.int .i64 0, .int .i64 0, .int .i64 0] t)).drew).heap.size ∧ (((w.alloc (.cells #[.int .i64 a1, .int .i64 a2, .int .i64 a3] t)).alloc (.cells #[.int .i64 0, .int .i64 0, .int .i64 0] t)).drew).cell? ⟨w.heap.size, 0, none⟩ = some (.int .i64 a1) ∧ (((w.alloc (.cells #[.int .i64 a1, .int .i64 a2, .int .i64 a3] t)).alloc (.cells #[.int .i64 0, .int .i64 0, .int .i64 0] t)).drew).cell? ⟨w.heap.size, 1, none⟩ = some (.int .i64 a2) ∧ (((w.alloc (.cells #[.int .i64 a1, .int .i64 a2, .int .i64 a3] t)).alloc (.cells #[.int .i64 0, .int .i64 0, .int .i64 0] t)).drew).cell? ⟨w.heap.size, 2, none⟩ = some (.int .i64 a3) ∧ (((w.alloc (.cells #[.int .i64 a1, .int .i64 a2, .int .i64 a3] t)).alloc (.cells #[.int .i64 0, .int .i64 0, .int .i64 0] t)).drew).cell? ⟨w.heap.size + 1, 0, none⟩ = some (rdF (((w.alloc (.cells #[.int .i64 a1, .int .i64 a2, .int .i64 a3] t)).alloc (.cells #[.int .i64 0, .int .i64 0, .int .i64 0] t)).drew) (w.heap.size + 1) 0) ∧ (((w.alloc (.cells #[.int .i64 a1, .int .i64 a2, .int .i64 a3] t)).alloc (.cells #[.int .i64 0, .int .i64 0, .int .i64 0] t)).drew).cell? ⟨w.heap.size + 1, 1, none⟩ = some (rdF (((w.alloc (.cells #[.int .i64 a1, .int .i64 a2, .int .i64 a3] t)).alloc (.cells #[.int .i64 0, .int .i64 0, .int .i64 0] t)).drew) (w.heap.size + 1) 1) ∧ (((w.alloc (.cells #[.int .i64 a1, .int .i64 a2, .int .i64 a3] t)).alloc (.cells #[.int .i64 0, .int .i64 0, .int .i64 0] t)).drew).cell? ⟨w.heap.size + 1, 2, none⟩ = some (rdF (((w.alloc (.cells #[.int .i64 a1, .int .i64 a2, .int .i64 a3] t)).alloc (.cells #[.int .i64 0, .int .i64 0, .int .i64 0] t)).drew) (w.heap.size + 1) 2) ∧ (((w.alloc (.cells #[.int .i64 a1, .int .i64 a2, .int .i64 a3] t)).alloc (.cells #[.int .i64 0, .int .i64 0, .int .i64 0] t)).drew).frozen? ⟨w.heap.size + 1, 0, none⟩ = false ∧ (((w.alloc (.cells #[.int .i64 a1, .int .i64 a2, .int .i64 a3] t)).alloc (.cells #[.int .i64 0, .int .i64 0, .int .i64 0] t)).drew).frozen? ⟨w.heap.size + 1, 1, none⟩ = false ∧ (((w.alloc (.cells #[.int .i64 a1, .int .i64 a2, .int .i64 a3] t)).alloc (.cells #[.int .i64 0, .int .i64 0, .int .i64 0] t)).drew).frozen? ⟨w.heap.size + 1, 2, none⟩ = false ∧ Below w.heap.size w (((w.alloc (.cells #[.int .i64 a1, .int .i64 a2, .int .i64 a3] t)).alloc (.cells #[.int .i64 0, .int .i64 0, .int .i64 0] t)).drew) := by
  exact ⟨by simp [go_sem],
    by simp [go_sem],
    by simp [go_sem],
    by simp [go_sem],
    rd_ofF (v := .int .i64 0) (by simp [go_sem]),
    rd_ofF (v := .int .i64 0) (by simp [go_sem]),
    rd_ofF (v := .int .i64 0) (by simp [go_sem]),
    by simp [go_sem],
    by simp [go_sem],
    by simp [go_sem],
    (((Below.refl _ _).alloc (Nat.le_refl _) _).alloc (by simp) _).drew⟩
end Go.Proofs.Ythcmcjklhcfenaa
