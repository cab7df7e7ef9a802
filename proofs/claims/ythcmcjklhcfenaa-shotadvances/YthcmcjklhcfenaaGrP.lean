/- Layer 9 (grid): the contract of the document's own answer Clear. -/
import Derived.Test.YthcmcjklhcfenaaGrO
namespace Go.Proofs.Ythcmcjklhcfenaa
open Go.RowKit
set_option linter.unusedVariables false
set_option linter.unusedSimpArgs false
attribute [local go_sem ↓] Go.wp_at_zero Go.wp_at_succ

/-- So it is at all cells of these. -/
def Cb (F : Int → Int → Int → Prop) (x0 x1 y0 y1 z0 z1 : Int) : Prop := ∀ x y z : Int, x0 ≤ x → x < x1 → y0 ≤ y → y < y1 → z0 ≤ z → z < z1 → F x y z
theorem Cb.none {F : Int → Int → Int → Prop} {x0 x1 y0 y1 z0 z1 : Int} (h : x1 ≤ x0 ∨ y1 ≤ y0 ∨ z1 ≤ z0) : Cb F x0 x1 y0 y1 z0 z1 := fun x y z _ _ _ _ _ _ => by omega
theorem Cb.x {F : Int → Int → Int → Prop} {x0 x1 y z : Int} (h : Cb F x0 x1 y (y + 1) z (z + 1)) (k : F x1 y z) : Cb F x0 (x1 + 1) y (y + 1) z (z + 1) := fun x' y' z' a b c d e f => by
  have hy : y' = y := by omega
  have hz : z' = z := by omega
  subst hy; subst hz
  by_cases hx : x' = x1
  · rw [hx]; exact k
  · exact h _ _ _ a (by omega) c d e f
theorem Cb.y {F : Int → Int → Int → Prop} {x0 x1 y0 y1 z : Int} (h : Cb F x0 x1 y0 y1 z (z + 1)) (k : Cb F x0 x1 y1 (y1 + 1) z (z + 1)) : Cb F x0 x1 y0 (y1 + 1) z (z + 1) := fun x' y' z' a b c d e f => by
  by_cases hy : y' < y1
  · exact h _ _ _ a b c hy e f
  · exact k _ _ _ a b (by omega) d e f
theorem Cb.z {F : Int → Int → Int → Prop} {x0 x1 y0 y1 z0 z1 : Int} (h : Cb F x0 x1 y0 y1 z0 z1) (k : Cb F x0 x1 y0 y1 z1 (z1 + 1)) : Cb F x0 x1 y0 y1 z0 (z1 + 1) := fun x' y' z' a b c d e f => by
  by_cases hz : z' < z1
  · exact h _ _ _ a b c d e hz
  · exact k _ _ _ a b c d (by omega) f
/-- A cell of a box is free, should it be one of the box. -/
def Mp.Bx (M : Mp) (x0 x1 y0 y1 z0 z1 : Int) (x y z : Int) : Prop := (x0 ≤ x ∧ x < x1) → (y0 ≤ y ∧ y < y1) → (z0 ≤ z ∧ z < z1) → M.Free x y z
theorem Mp.cl_cb {M : Mp} {x0 x1 y0 y1 z0 z1 : Int} (hx : 0 ≤ x0 ∧ x1 ≤ M.W) (hy : 0 ≤ y0 ∧ y1 ≤ M.D) (hz : 0 ≤ z0 ∧ z1 ≤ M.H) : M.Cl x0 x1 y0 y1 z0 z1 ↔ Cb (M.Bx x0 x1 y0 y1 z0 z1) 0 M.W 0 M.D 0 M.H :=
  ⟨fun h x y z _ _ _ _ _ _ a b c => h x y z a.1 a.2 b.1 b.2 c.1 c.2, fun h x y z a b c d e f => h x y z (by omega) (by omega) (by omega) (by omega) (by omega) (by omega) ⟨a, b⟩ ⟨c, d⟩ ⟨e, f⟩⟩

end Go.Proofs.Ythcmcjklhcfenaa
