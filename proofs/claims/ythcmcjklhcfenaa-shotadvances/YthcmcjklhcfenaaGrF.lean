/- Layer 9 (grid): the contract of (line).next. -/
import Derived.Test.YthcmcjklhcfenaaGrE
namespace Go.Proofs.Ythcmcjklhcfenaa
open Go.RowKit
set_option linter.unusedVariables false
set_option linter.unusedSimpArgs false
attribute [local go_sem ↓] Go.wp_at_zero Go.wp_at_succ

/-- Three numbers in a box. -/
structure B3 (w : World) (b : Nat) (t : TypeId) (x y z : Int) : Prop where
  obj : w.heap[b]? = some (.cells #[.int .i64 x, .int .i64 y, .int .i64 z] t (0, 0))
theorem B3.lt {w : World} {b : Nat} {t : TypeId} {x y z : Int} (h : B3 w b t x y z) : b < w.heap.size := (Array.getElem?_eq_some_iff.1 h.obj).1
theorem B3.cells {w : World} {b : Nat} {t : TypeId} {x y z : Int} (h : B3 w b t x y z) : w.cell? ⟨b, 0, none⟩ = some (.int .i64 x) ∧ w.cell? ⟨b, 1, none⟩ = some (.int .i64 y) ∧ w.cell? ⟨b, 2, none⟩ = some (.int .i64 z) :=
  ⟨cell_of_row w b 0 _ t (0, 0) h.obj, cell_of_row w b 1 _ t (0, 0) h.obj, cell_of_row w b 2 _ t (0, 0) h.obj⟩
theorem B3.thaw {w : World} {b : Nat} {t : TypeId} {x y z : Int} (h : B3 w b t x y z) : w.frozen? ⟨b, 0, none⟩ = false ∧ w.frozen? ⟨b, 1, none⟩ = false ∧ w.frozen? ⟨b, 2, none⟩ = false := by simp [World.frozen?, h.obj]
theorem B3.below {w w' : World} {b : Nat} {t : TypeId} {x y z : Int} (h : B3 w b t x y z) {B : Nat} (hb : Below B w w') (hB : b < B) : B3 w' b t x y z := ⟨by rw [hb.block b hB]; exact h.obj⟩
theorem B3.keep {w w' : World} {b : Nat} {t : TypeId} {x y z : Int} (h : B3 w b t x y z) (hb : Below w.heap.size w w') : B3 w' b t x y z := h.below hb h.lt
theorem B3.new (w : World) (t : TypeId) (x y z : Int) : B3 (w.alloc (.cells #[.int .i64 x, .int .i64 y, .int .i64 z] t)) w.heap.size t x y z := ⟨heap_alloc_new w _⟩
theorem B3.new' (w : World) (t : TypeId) (x y z : Int) {b : Nat} (hb : b = w.heap.size) : B3 (w.alloc (.cells #[.int .i64 x, .int .i64 y, .int .i64 z] t)) b t x y z := hb ▸ B3.new w t x y z
theorem B3.alloc {w : World} {b : Nat} {t : TypeId} {x y z : Int} (h : B3 w b t x y z) (o : Obj) : B3 (w.alloc o) b t x y z := ⟨by rw [Below.heap_alloc _ _ _ h.lt]; exact h.obj⟩
theorem B3.other {w : World} {b c o : Nat} {t : TypeId} {x y z : Int} (h : B3 w b t x y z) (hc : b ≠ c) (u : Value) : B3 (w.setCell ⟨c, o, none⟩ u) b t x y z := ⟨by rw [Below.heap_setCell _ _ _ _ hc]; exact h.obj⟩
theorem B3.set {w : World} {b : Nat} {t : TypeId} {x y z : Int} (h : B3 w b t x y z) (x' y' z' : Int) : B3 (((w.setCell ⟨b, 0, none⟩ (.int .i64 x')).setCell ⟨b, 1, none⟩ (.int .i64 y')).setCell ⟨b, 2, none⟩ (.int .i64 z')) b t x' y' z' := by
  refine ⟨?_⟩
  have h9 := heap_set_same (i := 2) (heap_set_same (i := 1) (heap_set_same (i := 0) h.obj (.int .i64 x')) (.int .i64 y')) (.int .i64 z')
  simpa only [List.setIfInBounds_toArray, List.set_cons_zero, List.set_cons_succ] using h9
theorem B3.others {w : World} {b c : Nat} {t : TypeId} {x y z : Int} (h : B3 w b t x y z) (hc : b ≠ c) (u v q : Value) : B3 (((w.setCell ⟨c, 0, none⟩ u).setCell ⟨c, 1, none⟩ v).setCell ⟨c, 2, none⟩ q) b t x y z := ((h.other hc u).other hc v).other hc q
theorem below_set3 {B : Nat} {w v : World} (h : Below B w v) {b : Nat} (hb : B ≤ b) (x y z : Value) : Below B w (((v.setCell ⟨b, 0, none⟩ x).setCell ⟨b, 1, none⟩ y).setCell ⟨b, 2, none⟩ z) :=
  ((h.setCell (p := ⟨b, 0, none⟩) hb _).setCell (p := ⟨b, 1, none⟩) hb _).setCell (p := ⟨b, 2, none⟩) hb _
/-- What is known behind so many axes. -/
inductive Nx (F T C : Nat → Int) (i : Nat) : Bool → Int → Int → Int → Prop where
  | no (h : ∀ j, j < i → ¬ Goes (T j) (C j)) : Nx F T C i false 0 0 0
  | yes (k : Nat) (hk : k < i) (g : Goes (T k) (C k)) (h : ∀ j, j < i → Goes (T j) (C j) → tau (F k) (T k) (C k) ≤ tau (F j) (T j) (C j)) : Nx F T C i true (F k) (T k) (C k)
theorem Nx.skip {F T C : Nat → Int} {i : Nat} {b : Bool} {x y z : Int} (h : Nx F T C i b x y z) (g : ¬ Goes (T i) (C i)) : Nx F T C (i + 1) b x y z := by
  cases h with
  | no h =>
    exact .no fun j hj => by
      by_cases e : j = i
      · rw [e]; exact g
      · exact h j (by omega)
  | yes k hk gk h =>
    exact .yes k (by omega) gk fun j hj gj => by
      by_cases e : j = i
      · rw [e] at gj; exact absurd gj g
      · exact h j (by omega) gj
theorem Nx.first {F T C : Nat → Int} {i : Nat} {x y z : Int} (h : Nx F T C i false x y z) (g : Goes (T i) (C i)) : Nx F T C (i + 1) true (F i) (T i) (C i) := by
  cases h with
  | no h =>
    exact .yes i (by omega) g fun j hj gj => by
      by_cases e : j = i
      · rw [e]; exact Rat.le_refl
      · exact absurd gj (h j (by omega))
theorem Nx.less {F T C : Nat → Int} (hr : ∀ j, Rg (F j) (T j) (C j)) {i : Nat} {x y z : Int} (h : Nx F T C i true x y z) (g : Goes (T i) (C i)) (hl : edgeI (F i) (T i) (C i) * longI x y < edgeI x y z * longI (F i) (T i)) : Nx F T C (i + 1) true (F i) (T i) (C i) := by
  cases h with
  | yes k hk gk h =>
    exact .yes i (by omega) g fun j hj gj => by
      have := (tau_lt ((hr i).long g).1 ((hr k).long gk).1).2 hl
      by_cases e : j = i
      · rw [e]; exact Rat.le_refl
      · have := h j (by omega) gj
        grind
theorem Nx.more {F T C : Nat → Int} (hr : ∀ j, Rg (F j) (T j) (C j)) {i : Nat} {x y z : Int} (h : Nx F T C i true x y z) (g : Goes (T i) (C i)) (hl : ¬ edgeI (F i) (T i) (C i) * longI x y < edgeI x y z * longI (F i) (T i)) : Nx F T C (i + 1) true x y z := by
  cases h with
  | yes k hk gk h =>
    exact .yes k (by omega) gk fun j hj gj => by
      have := (tau_le ((hr k).long gk).1 ((hr i).long g).1).2 (Int.not_lt.1 hl)
      by_cases e : j = i
      · rw [e]; exact this
      · exact h j (by omega) gj
theorem Nx.ok {F T C : Nat → Int} (hok : ∀ j, AxOk (F j) (T j) (C j)) {i : Nat} {x y z : Int} (h : Nx F T C i true x y z) : AxOk x y z := by
  cases h with
  | yes k hk gk h => exact hok k
theorem cmpI_lt {a b : Int} : (cmpI a b < 0) ↔ a < b := by unfold cmpI; split <;> (try split) <;> omega
end Go.Proofs.Ythcmcjklhcfenaa
