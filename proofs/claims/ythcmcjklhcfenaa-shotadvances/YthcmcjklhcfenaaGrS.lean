/- Layer 9 (grid): what must be in any case (shown). -/
import Derived.Test.YthcmcjklhcfenaaGrJ
namespace Go.Proofs.Ythcmcjklhcfenaa
open Go.RowKit
set_option linter.unusedVariables false
set_option linter.unusedSimpArgs false
attribute [local go_sem ↓] Go.wp_at_zero Go.wp_at_succ

def nof : Nat → Bool := fun _ => false
def onef : Nat → Bool := fun i => decide (i = 1)
theorem sized_312 (f : Nat → Bool) : (mpOf 3 1 2 6 f).Sized := by simp [Mp.Sized, mpOf]
theorem sees_no : (mpOf 3 1 2 6 nof).Sees ⟨32768, 32768, 32768⟩ ⟨163840, 32768, 32768⟩ := (Mp.open_sees (sized_312 _) (fun _ _ => rfl)).2 (by simp [mpOf])
theorem sees_one : ¬ (mpOf 3 1 2 6 onef).Sees ⟨32768, 32768, 32768⟩ ⟨163840, 32768, 32768⟩ := fun h => by
  have := (Mp.straight (a := ⟨32768, 32768, 32768⟩) (b := ⟨163840, 32768, 32768⟩) (.inl ⟨rfl, rfl⟩)).1 h 1 0 0 (by decide) (by decide) (by decide) (by decide) (by decide) (by decide)
  exact absurd this (by decide)
theorem right_one : (mpOf 3 1 2 6 onef).RightP 1 (fun _ => 32768) (fun _ => 32768) (fun _ => 65536) := by
  refine ⟨sized_312 _, by decide, by decide, fun i _ => ?_⟩
  intro _ _ _ x y z a1 a2 a3 a4 a5 a6
  simp [sat] at a1 a2 a3 a4 a5 a6
  have ex : x = 0 := by omega
  have ey : y = 0 := by omega
  have ez : z = 0 ∨ z = 1 := by omega
  subst ex; subst ey
  rcases ez with rfl | rfl <;> decide
theorem right_none : ¬ (mpOf 3 1 2 6 nof).RightP 0 (fun _ => 0) (fun _ => 0) (fun _ => 0) := fun h => h.2.1 rfl
/-- The cells of a map of six. -/
structure R6 (w : World) (g : Nat) (f : Nat → Bool) : Prop where
  obj : w.heap[g]? = some (.cells #[.bool (f 0), .bool (f 1), .bool (f 2), .bool (f 3), .bool (f 4), .bool (f 5)] 4 (0, 0))
theorem R6.lt {w : World} {g : Nat} {f : Nat → Bool} (h : R6 w g f) : g < w.heap.size := (Array.getElem?_eq_some_iff.1 h.obj).1
theorem R6.arg {w : World} {g : Nat} {f : Nat → Bool} (h : R6 w g f) : Arg w (some ⟨g, 0, none⟩) 6 6 fun i => .bool (f i) := by
  refine ⟨Nat.le_refl _, by unfold maxLen; omega, .inr ⟨g, 0, rfl, h.lt, fun i hi => ?_⟩⟩
  rw [Nat.zero_add, cell_of_row w g i _ 4 (0, 0) h.obj]
  have : i = 0 ∨ i = 1 ∨ i = 2 ∨ i = 3 ∨ i = 4 ∨ i = 5 := by omega
  rcases this with rfl | rfl | rfl | rfl | rfl | rfl <;> rfl
theorem R6.keep {w w' : World} {g : Nat} {f : Nat → Bool} (h : R6 w g f) (hb : Below w.heap.size w w') : R6 w' g f := ⟨by rw [hb.block g h.lt]; exact h.obj⟩
theorem R6.set1 {w : World} {g : Nat} (h : R6 w g nof) : R6 (w.setCell ⟨g, 1, none⟩ (.bool true)) g onef :=
  ⟨by
    have := heap_set_same (i := 1) h.obj (.bool true)
    simp only [List.setIfInBounds_toArray, List.set_cons_zero, List.set_cons_succ] at this
    refine this.trans ?_
    rfl⟩
theorem sol6 {g : Nat} (sp : Option Addr) (sn sc : Nat) (x y z : Int) (w : World) (hm : Arg w (some ⟨g, 0, none⟩) 6 6 fun i => .bool (onef i)) {b : Bool} (hb : (mpOf 3 1 2 6 onef).solid x y z = b) :
    Calls Try.prog 20 #[.agg #[.int .i64 3, .int .i64 1, .int .i64 2, .slice (some ⟨g, 0, none⟩) 6 6, .slice sp sn sc], .int .i64 x, .int .i64 y, .int .i64 z] w fun e w' => e = .returned (.bool b) ∧ Below w.heap.size w w' :=
  hb ▸ gridSolid 3 1 2 (some ⟨g, 0, none⟩) 6 6 onef sp sn sc x y z w hm
end Go.Proofs.Ythcmcjklhcfenaa
