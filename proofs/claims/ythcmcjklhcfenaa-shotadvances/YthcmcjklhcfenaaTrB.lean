/- Layer 10 (trace): boxes of three cells; the contract of axes. -/
import Derived.Test.YthcmcjklhcfenaaTrA
import Derived.Test.YthcmcjklhcfenaaGwJ
namespace Go.Proofs.Ythcmcjklhcfenaa
open Go.RowKit
set_option linter.unusedVariables false
set_option linter.unusedSimpArgs false
attribute [local go_sem ↓] Go.wp_at_zero Go.wp_at_succ

/-- A box of three cells, of whatever. -/
structure O3 (w : World) (b : Nat) (t : TypeId) (x y z : Value) : Prop where
  obj : w.heap[b]? = some (.cells #[x, y, z] t (0, 0))
theorem O3.lt {w : World} {b : Nat} {t : TypeId} {x y z : Value} (h : O3 w b t x y z) : b < w.heap.size := (Array.getElem?_eq_some_iff.1 h.obj).1
theorem O3.cells {w : World} {b : Nat} {t : TypeId} {x y z : Value} (h : O3 w b t x y z) : w.cell? ⟨b, 0, none⟩ = some x ∧ w.cell? ⟨b, 1, none⟩ = some y ∧ w.cell? ⟨b, 2, none⟩ = some z :=
  ⟨cell_of_row w b 0 _ t (0, 0) h.obj, cell_of_row w b 1 _ t (0, 0) h.obj, cell_of_row w b 2 _ t (0, 0) h.obj⟩
theorem O3.thaw {w : World} {b : Nat} {t : TypeId} {x y z : Value} (h : O3 w b t x y z) : w.frozen? ⟨b, 0, none⟩ = false ∧ w.frozen? ⟨b, 1, none⟩ = false ∧ w.frozen? ⟨b, 2, none⟩ = false := by simp [World.frozen?, h.obj]
theorem O3.keep {w w' : World} {b : Nat} {t : TypeId} {x y z : Value} (h : O3 w b t x y z) (hb : Below w.heap.size w w') : O3 w' b t x y z := ⟨by rw [hb.block b h.lt]; exact h.obj⟩
theorem O3.new (w : World) (t : TypeId) (x y z : Value) : O3 (w.alloc (.cells #[x, y, z] t)) w.heap.size t x y z := ⟨heap_alloc_new w _⟩
theorem O3.new' (w : World) (t : TypeId) (x y z : Value) {b : Nat} (hb : b = w.heap.size) : O3 (w.alloc (.cells #[x, y, z] t)) b t x y z := hb ▸ O3.new w t x y z
theorem O3.alloc {w : World} {b : Nat} {t : TypeId} {x y z : Value} (h : O3 w b t x y z) (o : Obj) : O3 (w.alloc o) b t x y z := ⟨by rw [Below.heap_alloc _ _ _ h.lt]; exact h.obj⟩
theorem O3.other {w : World} {b c o : Nat} {t : TypeId} {x y z : Value} (h : O3 w b t x y z) (hc : b ≠ c) (u : Value) : O3 (w.setCell ⟨c, o, none⟩ u) b t x y z := ⟨by rw [Below.heap_setCell _ _ _ _ hc]; exact h.obj⟩
theorem O3.set0 {w : World} {b : Nat} {t : TypeId} {x y z : Value} (h : O3 w b t x y z) (u : Value) : O3 (w.setCell ⟨b, 0, none⟩ u) b t u y z :=
  ⟨by have := heap_set_same (i := 0) h.obj u; simpa only [List.setIfInBounds_toArray, List.set_cons_zero, List.set_cons_succ] using this⟩
theorem O3.set1 {w : World} {b : Nat} {t : TypeId} {x y z : Value} (h : O3 w b t x y z) (u : Value) : O3 (w.setCell ⟨b, 1, none⟩ u) b t x u z :=
  ⟨by have := heap_set_same (i := 1) h.obj u; simpa only [List.setIfInBounds_toArray, List.set_cons_zero, List.set_cons_succ] using this⟩
theorem O3.set2 {w : World} {b : Nat} {t : TypeId} {x y z : Value} (h : O3 w b t x y z) (u : Value) : O3 (w.setCell ⟨b, 2, none⟩ u) b t x y u :=
  ⟨by have := heap_set_same (i := 2) h.obj u; simpa only [List.setIfInBounds_toArray, List.set_cons_zero, List.set_cons_succ] using this⟩
theorem O3.set {w : World} {b : Nat} {t : TypeId} {x y z : Value} (h : O3 w b t x y z) (u v q : Value) : O3 (((w.setCell ⟨b, 0, none⟩ u).setCell ⟨b, 1, none⟩ v).setCell ⟨b, 2, none⟩ q) b t u v q := ((h.set0 u).set1 v).set2 q
theorem O3.others {w : World} {b c : Nat} {t : TypeId} {x y z : Value} (h : O3 w b t x y z) (hc : b ≠ c) (u v q : Value) : O3 (((w.setCell ⟨c, 0, none⟩ u).setCell ⟨c, 1, none⟩ v).setCell ⟨c, 2, none⟩ q) b t x y z := ((h.other hc u).other hc v).other hc q
theorem O5.others {w : World} {b c : Nat} {x0 x1 x2 x3 x4 : Value} (h : O5 w b x0 x1 x2 x3 x4) (hc : b ≠ c) (u v q : Value) : O5 (((w.setCell ⟨c, 0, none⟩ u).setCell ⟨c, 1, none⟩ v).setCell ⟨c, 2, none⟩ q) b x0 x1 x2 x3 x4 := ((h.other hc u).other hc v).other hc q
def ptr (b o : Nat) : Value := .pointer (some ⟨b, o, none⟩)
end Go.Proofs.Ythcmcjklhcfenaa
