/- Layer 9 (grid): how the laws about a map begin: the map in its box, cut to what is looked at; the vectors in theirs. -/
import Derived.Test.YthcmcjklhcfenaaGwA
import Derived.Deep.DeepCutAuto
import Derived.Deep.CutBlock
namespace Go.Proofs.Ythcmcjklhcfenaa
open Go.RowKit
set_option linter.unusedVariables false
set_option linter.unusedSimpArgs false

/-- A map in a box of its own. -/
structure O5 (w : World) (b : Nat) (x0 x1 x2 x3 x4 : Value) : Prop where
  obj : w.heap[b]? = some (.cells #[x0, x1, x2, x3, x4] 25 (0, 0))
theorem O5.lt {w : World} {b : Nat} {x0 x1 x2 x3 x4 : Value} (h : O5 w b x0 x1 x2 x3 x4) : b < w.heap.size := (Array.getElem?_eq_some_iff.1 h.obj).1
theorem O5.cells {w : World} {b : Nat} {x0 x1 x2 x3 x4 : Value} (h : O5 w b x0 x1 x2 x3 x4) : w.cell? ⟨b, 0, none⟩ = some x0 ∧ w.cell? ⟨b, 1, none⟩ = some x1 ∧ w.cell? ⟨b, 2, none⟩ = some x2 ∧ w.cell? ⟨b, 3, none⟩ = some x3 ∧ w.cell? ⟨b, 4, none⟩ = some x4 :=
  ⟨cell_of_row w b 0 _ _ (0, 0) h.obj, cell_of_row w b 1 _ _ (0, 0) h.obj, cell_of_row w b 2 _ _ (0, 0) h.obj, cell_of_row w b 3 _ _ (0, 0) h.obj, cell_of_row w b 4 _ _ (0, 0) h.obj⟩
theorem O5.thaw {w : World} {b : Nat} {x0 x1 x2 x3 x4 : Value} (h : O5 w b x0 x1 x2 x3 x4) : w.frozen? ⟨b, 0, none⟩ = false ∧ w.frozen? ⟨b, 1, none⟩ = false ∧ w.frozen? ⟨b, 2, none⟩ = false ∧ w.frozen? ⟨b, 3, none⟩ = false ∧ w.frozen? ⟨b, 4, none⟩ = false := by simp [World.frozen?, h.obj]
theorem O5.keep {w w' : World} {b : Nat} {x0 x1 x2 x3 x4 : Value} (h : O5 w b x0 x1 x2 x3 x4) (hb : Below w.heap.size w w') : O5 w' b x0 x1 x2 x3 x4 := ⟨by rw [hb.block b h.lt]; exact h.obj⟩
theorem O5.alloc {w : World} {b : Nat} {x0 x1 x2 x3 x4 : Value} (h : O5 w b x0 x1 x2 x3 x4) (o : Obj) : O5 (w.alloc o) b x0 x1 x2 x3 x4 := h.keep ((Below.refl _ _).alloc (Nat.le_refl _) _)
theorem O5.new (w : World) (x0 x1 x2 x3 x4 : Value) : O5 (w.alloc (.cells #[x0, x1, x2, x3, x4] 25)) w.heap.size x0 x1 x2 x3 x4 := ⟨heap_alloc_new w _⟩
theorem O5.set {w : World} {b : Nat} {x0 x1 x2 x3 x4 : Value} (h : O5 w b x0 x1 x2 x3 x4) (y0 y1 y2 y3 y4 : Value) : O5 (((((w.setCell ⟨b, 0, none⟩ y0).setCell ⟨b, 1, none⟩ y1).setCell ⟨b, 2, none⟩ y2).setCell ⟨b, 3, none⟩ y3).setCell ⟨b, 4, none⟩ y4) b y0 y1 y2 y3 y4 := by
  refine ⟨?_⟩
  have h9 := heap_set_same (i := 4) (heap_set_same (i := 3) (heap_set_same (i := 2) (heap_set_same (i := 1) (heap_set_same (i := 0) h.obj y0) y1) y2) y3) y4
  simpa only [List.setIfInBounds_toArray, List.set_cons_zero, List.set_cons_succ] using h9
theorem B3.set5 {w : World} {b c : Nat} {t : TypeId} {x y z : Int} (h : B3 w b t x y z) (hc : b ≠ c) (y0 y1 y2 y3 y4 : Value) : B3 (((((w.setCell ⟨c, 0, none⟩ y0).setCell ⟨c, 1, none⟩ y1).setCell ⟨c, 2, none⟩ y2).setCell ⟨c, 3, none⟩ y3).setCell ⟨c, 4, none⟩ y4) b t x y z :=
  ((((h.other hc _).other hc _).other hc _).other hc _).other hc _
theorem below_set5 {B : Nat} {w v : World} (h : Below B w v) {b : Nat} (hb : B ≤ b) (y0 y1 y2 y3 y4 : Value) : Below B w (((((v.setCell ⟨b, 0, none⟩ y0).setCell ⟨b, 1, none⟩ y1).setCell ⟨b, 2, none⟩ y2).setCell ⟨b, 3, none⟩ y3).setCell ⟨b, 4, none⟩ y4) :=
  ((((h.setCell (p := ⟨b, 0, none⟩) hb _).setCell (p := ⟨b, 1, none⟩) hb _).setCell (p := ⟨b, 2, none⟩) hb _).setCell (p := ⟨b, 3, none⟩) hb _).setCell (p := ⟨b, 4, none⟩) hb _
/-- Cells that stay. -/
theorem stays {W : World} {b o : Nat} {v : Value} (h : W.cell? ⟨b, o, none⟩ = some v) : ∀ w', Below W.heap.size W w' → w'.cell? ⟨b, o, none⟩ = some v := fun w' hb => keepBox hb h
/-- What the lowest bits of a number are. -/
theorem mask {m x : Int} {k : Nat} (hm : m = ((2 ^ k - 1 : Nat) : Int)) (hk : k ≤ 62) : ∃ q : Nat, q < 2 ^ k ∧ bits .and .i64 x m = (q : Int) := by
  have hlt : 2 ^ k ≤ 2 ^ 62 := Nat.pow_le_pow_right (by decide) hk
  have e : bits .and .i64 x m = IntKind.i64.wrap (((BitVec.ofInt 64 x) &&& (BitVec.ofInt 64 m)).toNat : Int) := rfl
  have hpos : 0 < 2 ^ k := Nat.pow_pos (by decide)
  have hle : ((BitVec.ofInt 64 x) &&& (BitVec.ofInt 64 m)).toNat ≤ 2 ^ k - 1 := by
    rw [BitVec.toNat_and, hm, BitVec.ofInt_natCast, BitVec.toNat_ofNat, Nat.mod_eq_of_lt (by omega)]
    exact Nat.and_le_right
  refine ⟨((BitVec.ofInt 64 x) &&& (BitVec.ofInt 64 m)).toNat, by omega, ?_⟩
  rw [e]
  exact wrapI (by omega) (by omega)
end Go.Proofs.Ythcmcjklhcfenaa
