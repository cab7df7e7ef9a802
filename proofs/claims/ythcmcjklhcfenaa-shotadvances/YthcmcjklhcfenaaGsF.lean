/- Layer 1 (fix): Add, Sub, each, Plus, Minus; joined out of FixA, FixC, FixD. -/
import Derived.Test.YthcmcjklhcfenaaRows
import Derived.Test.YthcmcjklhcfenaaGsP
import Derived.WalkKit
import Derived.WalkSpells
import Derived.WalkLawsBesides
import Derived.Shelf.Spec.BitsCarry
import Derived.Deep.RegionHeld3
import Derived.Deep.DrawnRows
import Derived.LoopTactic
namespace Go.Proofs.Ythcmcjklhcfenaa
open Go.RowKit
set_option linter.unusedVariables false
attribute [local go_sem ↓] Go.wp_at_zero Go.wp_at_succ

theorem sat_add {a b : Int} (ha : I64 a) (hb : I64 b) :
    (0 < b → wrap64 (a + b) < a → 9223372036854775807 = sat (a + b)) ∧ (0 < b → a ≤ wrap64 (a + b) → wrap64 (a + b) = sat (a + b)) ∧
    (b < 0 → a < wrap64 (a + b) → -9223372036854775808 = sat (a + b)) ∧ (b < 0 → wrap64 (a + b) ≤ a → wrap64 (a + b) = sat (a + b)) ∧ (b ≤ 0 → 0 ≤ b → wrap64 (a + b) = sat (a + b)) := by
  obtain ⟨_, _⟩ := ha; obtain ⟨_, _⟩ := hb
  unfold wrap64 sat
  refine ⟨?_, ?_, ?_, ?_, ?_⟩ <;> intro _ _ <;> split <;> (try split) <;> omega
theorem sat_sub {a b : Int} (ha : I64 a) (hb : I64 b) :
    (b < 0 → wrap64 (a - b) < a → 9223372036854775807 = sat (a - b)) ∧ (b < 0 → a ≤ wrap64 (a - b) → wrap64 (a - b) = sat (a - b)) ∧
    (0 < b → a < wrap64 (a - b) → -9223372036854775808 = sat (a - b)) ∧ (0 < b → wrap64 (a - b) ≤ a → wrap64 (a - b) = sat (a - b)) ∧ (0 ≤ b → b ≤ 0 → wrap64 (a - b) = sat (a - b)) := by
  obtain ⟨_, _⟩ := ha; obtain ⟨_, _⟩ := hb
  unfold wrap64 sat
  refine ⟨?_, ?_, ?_, ?_, ?_⟩ <;> intro _ _ <;> split <;> (try split) <;> omega
theorem fixAdd (a b : Int) (ha : I64 a) (hb : I64 b) (w : World) :
    Calls Try.prog 38 #[.int .i64 a, .int .i64 b] w fun e w' => e = .returned (.int .i64 (sat (a + b))) ∧ w' = w := by
  go_enter Try.func38, Try.ntmps38
  go_wp2
  all_goals go_ret
  · exact ⟨ret_intF ((sat_add ha hb).1 ‹_› ‹_›), rfl⟩
  · exact ⟨ret_intF ((sat_add ha hb).2.1 ‹_› ‹_›), rfl⟩
  · exact ⟨ret_intF ((sat_add ha hb).2.2.1 ‹_› ‹_›), rfl⟩
  · exact ⟨ret_intF ((sat_add ha hb).2.2.2.1 ‹_› ‹_›), rfl⟩
  · exact ⟨ret_intF ((sat_add ha hb).2.2.2.2 ‹_› ‹_›), rfl⟩
theorem fixSub (a b : Int) (ha : I64 a) (hb : I64 b) (w : World) :
    Calls Try.prog 23 #[.int .i64 a, .int .i64 b] w fun e w' => e = .returned (.int .i64 (sat (a - b))) ∧ w' = w := by
  go_enter Try.func23, Try.ntmps23
  go_wp2
  all_goals go_ret
  · exact ⟨ret_intF ((sat_sub ha hb).1 ‹_› ‹_›), rfl⟩
  · exact ⟨ret_intF ((sat_sub ha hb).2.1 ‹_› ‹_›), rfl⟩
  · exact ⟨ret_intF ((sat_sub ha hb).2.2.1 ‹_› ‹_›), rfl⟩
  · exact ⟨ret_intF ((sat_sub ha hb).2.2.2.1 ‹_› ‹_›), rfl⟩
  · exact ⟨ret_intF ((sat_sub ha hb).2.2.2.2 ‹_› ‹_›), rfl⟩
/-- What a cell holds (a name that the walk does not open). -/
def rdF (w : World) (b o : Nat) : Value := (w.cell? ⟨b, o, none⟩).getD undef
theorem rd_ofF {w : World} {b o : Nat} {v : Value} (h : w.cell? ⟨b, o, none⟩ = some v) : w.cell? ⟨b, o, none⟩ = some (rdF w b o) := by unfold rdF; rw [h]; rfl
theorem some_set {w : World} {b o : Nat} {v x : Value} {a : Addr} (h : w.cell? ⟨b, o, none⟩ = some v) : ∃ v', (w.setCell a x).cell? ⟨b, o, none⟩ = some v' := cell?_setCell_some h
theorem old_set {w : World} {b o c i : Nat} {v x : Value} (h : w.cell? ⟨b, o, none⟩ = some v) (hn : b ≠ c) : (w.setCell ⟨c, i, none⟩ x).cell? ⟨b, o, none⟩ = some v :=
  (World.cell?_of_block (w := w) (Below.heap_setCell w ⟨c, i, none⟩ x b hn)).trans h
theorem keepCell {W w1 : World} (hb : Below W.heap.size W w1) {b o : Nat} {x : Value} (hlt : b < W.heap.size) (h : W.cell? ⟨b, o, none⟩ = some x) : w1.cell? ⟨b, o, none⟩ = some x :=
  (hb.cell (p := ⟨b, o, none⟩) hlt).trans h
theorem keepFrozen {W w1 : World} (hb : Below W.heap.size W w1) {b o : Nat} {x : Bool} (hlt : b < W.heap.size) (h : W.frozen? ⟨b, o, none⟩ = x) : w1.frozen? ⟨b, o, none⟩ = x :=
  (hb.frozen (p := ⟨b, o, none⟩) hlt).trans h
/-- A cell that is there behind a store was there. -/
theorem set_back {w : World} {p q : Addr} {x v : Value} (h : (w.setCell p x).cell? q = some v) : ∃ u, w.cell? q = some u := by
  by_cases e : p = q
  · subst e
    simp only [World.setCell, World.cell?, Array.getElem?_modify, if_true] at h ⊢
    cases hb : w.heap[p.block]? with
    | none => rw [hb] at h; simp at h
    | some o =>
      rw [hb] at h
      cases o with
      | cells c t f =>
        simp only [Option.map_some] at h ⊢
        split at h
        · simp at h
        · rename_i hs
          simp only [hs, Bool.false_eq_true, if_false] at h ⊢
          have hlt : p.off < c.size := by
            apply Nat.lt_of_not_le
            intro hle
            rw [Array.getElem?_eq_none (by simpa using hle)] at h
            simp at h
          exact ⟨c[p.off], by rw [Array.getElem?_eq_getElem hlt]⟩
      | _ => simp at h
  · exact ⟨v, by rw [← World.cell?_setCell_other w p q x e]; exact h⟩
/-- Three cells that are stored hold what was stored. -/
theorem three_set {W : World} {b : Nat} {x y z u0 u1 u2 : Value}
    (h0 : (((W.setCell ⟨b, 0, none⟩ x).setCell ⟨b, 1, none⟩ y).setCell ⟨b, 2, none⟩ z).cell? ⟨b, 0, none⟩ = some u0)
    (h1 : (((W.setCell ⟨b, 0, none⟩ x).setCell ⟨b, 1, none⟩ y).setCell ⟨b, 2, none⟩ z).cell? ⟨b, 1, none⟩ = some u1)
    (h2 : (((W.setCell ⟨b, 0, none⟩ x).setCell ⟨b, 1, none⟩ y).setCell ⟨b, 2, none⟩ z).cell? ⟨b, 2, none⟩ = some u2) :
    (((W.setCell ⟨b, 0, none⟩ x).setCell ⟨b, 1, none⟩ y).setCell ⟨b, 2, none⟩ z).cell? ⟨b, 0, none⟩ = some x ∧
    (((W.setCell ⟨b, 0, none⟩ x).setCell ⟨b, 1, none⟩ y).setCell ⟨b, 2, none⟩ z).cell? ⟨b, 1, none⟩ = some y ∧
    (((W.setCell ⟨b, 0, none⟩ x).setCell ⟨b, 1, none⟩ y).setCell ⟨b, 2, none⟩ z).cell? ⟨b, 2, none⟩ = some z := by
  obtain ⟨v2, k2⟩ := set_back h2
  obtain ⟨v1, k1⟩ := set_back h1
  obtain ⟨v1, k1⟩ := set_back k1
  obtain ⟨v0, k0⟩ := set_back h0
  obtain ⟨v0, k0⟩ := set_back k0
  obtain ⟨v0, k0⟩ := set_back k0
  refine ⟨?_, ?_, World.cell?_setCell_same _ _ _ k2⟩
  · rw [World.cell?_setCell_other _ _ _ _ (by simp), World.cell?_setCell_other _ _ _ _ (by simp)]; exact World.cell?_setCell_same _ _ _ k0
  · rw [World.cell?_setCell_other _ _ _ _ (by simp)]; exact World.cell?_setCell_same _ _ _ k1
theorem keepE {w W w1 : World} {a1 a2 a3 b1 b2 b3 : Int} (hb : Below W.heap.size W w1) (h : w.heap.size + 1 + 1 < W.heap.size ∧ W.cell? ⟨w.heap.size, 0, none⟩ = some (.int .i64 a1) ∧ W.cell? ⟨w.heap.size, 1, none⟩ = some (.int .i64 a2) ∧ W.cell? ⟨w.heap.size, 2, none⟩ = some (.int .i64 a3) ∧ W.cell? ⟨w.heap.size + 1, 0, none⟩ = some (.int .i64 b1) ∧ W.cell? ⟨w.heap.size + 1, 1, none⟩ = some (.int .i64 b2) ∧ W.cell? ⟨w.heap.size + 1, 2, none⟩ = some (.int .i64 b3) ∧ W.cell? ⟨w.heap.size + 1 + 1, 0, none⟩ = some (rdF W (w.heap.size + 1 + 1) 0) ∧ W.cell? ⟨w.heap.size + 1 + 1, 1, none⟩ = some (rdF W (w.heap.size + 1 + 1) 1) ∧ W.cell? ⟨w.heap.size + 1 + 1, 2, none⟩ = some (rdF W (w.heap.size + 1 + 1) 2) ∧ W.frozen? ⟨w.heap.size + 1 + 1, 0, none⟩ = false ∧ W.frozen? ⟨w.heap.size + 1 + 1, 1, none⟩ = false ∧ W.frozen? ⟨w.heap.size + 1 + 1, 2, none⟩ = false ∧ Below w.heap.size w W) :
    w.heap.size + 1 + 1 < w1.heap.size ∧ w1.cell? ⟨w.heap.size, 0, none⟩ = some (.int .i64 a1) ∧ w1.cell? ⟨w.heap.size, 1, none⟩ = some (.int .i64 a2) ∧ w1.cell? ⟨w.heap.size, 2, none⟩ = some (.int .i64 a3) ∧ w1.cell? ⟨w.heap.size + 1, 0, none⟩ = some (.int .i64 b1) ∧ w1.cell? ⟨w.heap.size + 1, 1, none⟩ = some (.int .i64 b2) ∧ w1.cell? ⟨w.heap.size + 1, 2, none⟩ = some (.int .i64 b3) ∧ w1.cell? ⟨w.heap.size + 1 + 1, 0, none⟩ = some (rdF w1 (w.heap.size + 1 + 1) 0) ∧ w1.cell? ⟨w.heap.size + 1 + 1, 1, none⟩ = some (rdF w1 (w.heap.size + 1 + 1) 1) ∧ w1.cell? ⟨w.heap.size + 1 + 1, 2, none⟩ = some (rdF w1 (w.heap.size + 1 + 1) 2) ∧ w1.frozen? ⟨w.heap.size + 1 + 1, 0, none⟩ = false ∧ w1.frozen? ⟨w.heap.size + 1 + 1, 1, none⟩ = false ∧ w1.frozen? ⟨w.heap.size + 1 + 1, 2, none⟩ = false ∧ Below w.heap.size w w1 := by
  obtain ⟨h0, h1, h2, h3, h4, h5, h6, h7, h8, h9, h10, h11, h12, h13⟩ := h
  exact ⟨Nat.lt_of_lt_of_le h0 hb.size, keepCell hb (by omega) h1, keepCell hb (by omega) h2, keepCell hb (by omega) h3, keepCell hb (by omega) h4, keepCell hb (by omega) h5, keepCell hb (by omega) h6, rd_ofF (keepCell hb (by omega) h7), rd_ofF (keepCell hb (by omega) h8), rd_ofF (keepCell hb (by omega) h9), keepFrozen hb (by omega) h10, keepFrozen hb (by omega) h11, keepFrozen hb (by omega) h12, h13.trans (hb.mono (by omega))⟩
theorem setE {w W : World} {a1 a2 a3 b1 b2 b3 : Int} (x y z : Value) (h : w.heap.size + 1 + 1 < W.heap.size ∧ W.cell? ⟨w.heap.size, 0, none⟩ = some (.int .i64 a1) ∧ W.cell? ⟨w.heap.size, 1, none⟩ = some (.int .i64 a2) ∧ W.cell? ⟨w.heap.size, 2, none⟩ = some (.int .i64 a3) ∧ W.cell? ⟨w.heap.size + 1, 0, none⟩ = some (.int .i64 b1) ∧ W.cell? ⟨w.heap.size + 1, 1, none⟩ = some (.int .i64 b2) ∧ W.cell? ⟨w.heap.size + 1, 2, none⟩ = some (.int .i64 b3) ∧ W.cell? ⟨w.heap.size + 1 + 1, 0, none⟩ = some (rdF W (w.heap.size + 1 + 1) 0) ∧ W.cell? ⟨w.heap.size + 1 + 1, 1, none⟩ = some (rdF W (w.heap.size + 1 + 1) 1) ∧ W.cell? ⟨w.heap.size + 1 + 1, 2, none⟩ = some (rdF W (w.heap.size + 1 + 1) 2) ∧ W.frozen? ⟨w.heap.size + 1 + 1, 0, none⟩ = false ∧ W.frozen? ⟨w.heap.size + 1 + 1, 1, none⟩ = false ∧ W.frozen? ⟨w.heap.size + 1 + 1, 2, none⟩ = false ∧ Below w.heap.size w W) :
    w.heap.size + 1 + 1 < (((W.setCell ⟨w.heap.size + 1 + 1, 0, none⟩ x).setCell ⟨w.heap.size + 1 + 1, 1, none⟩ y).setCell ⟨w.heap.size + 1 + 1, 2, none⟩ z).heap.size ∧ (((W.setCell ⟨w.heap.size + 1 + 1, 0, none⟩ x).setCell ⟨w.heap.size + 1 + 1, 1, none⟩ y).setCell ⟨w.heap.size + 1 + 1, 2, none⟩ z).cell? ⟨w.heap.size, 0, none⟩ = some (.int .i64 a1) ∧ (((W.setCell ⟨w.heap.size + 1 + 1, 0, none⟩ x).setCell ⟨w.heap.size + 1 + 1, 1, none⟩ y).setCell ⟨w.heap.size + 1 + 1, 2, none⟩ z).cell? ⟨w.heap.size, 1, none⟩ = some (.int .i64 a2) ∧ (((W.setCell ⟨w.heap.size + 1 + 1, 0, none⟩ x).setCell ⟨w.heap.size + 1 + 1, 1, none⟩ y).setCell ⟨w.heap.size + 1 + 1, 2, none⟩ z).cell? ⟨w.heap.size, 2, none⟩ = some (.int .i64 a3) ∧ (((W.setCell ⟨w.heap.size + 1 + 1, 0, none⟩ x).setCell ⟨w.heap.size + 1 + 1, 1, none⟩ y).setCell ⟨w.heap.size + 1 + 1, 2, none⟩ z).cell? ⟨w.heap.size + 1, 0, none⟩ = some (.int .i64 b1) ∧ (((W.setCell ⟨w.heap.size + 1 + 1, 0, none⟩ x).setCell ⟨w.heap.size + 1 + 1, 1, none⟩ y).setCell ⟨w.heap.size + 1 + 1, 2, none⟩ z).cell? ⟨w.heap.size + 1, 1, none⟩ = some (.int .i64 b2) ∧ (((W.setCell ⟨w.heap.size + 1 + 1, 0, none⟩ x).setCell ⟨w.heap.size + 1 + 1, 1, none⟩ y).setCell ⟨w.heap.size + 1 + 1, 2, none⟩ z).cell? ⟨w.heap.size + 1, 2, none⟩ = some (.int .i64 b3) ∧ (((W.setCell ⟨w.heap.size + 1 + 1, 0, none⟩ x).setCell ⟨w.heap.size + 1 + 1, 1, none⟩ y).setCell ⟨w.heap.size + 1 + 1, 2, none⟩ z).cell? ⟨w.heap.size + 1 + 1, 0, none⟩ = some (rdF (((W.setCell ⟨w.heap.size + 1 + 1, 0, none⟩ x).setCell ⟨w.heap.size + 1 + 1, 1, none⟩ y).setCell ⟨w.heap.size + 1 + 1, 2, none⟩ z) (w.heap.size + 1 + 1) 0) ∧ (((W.setCell ⟨w.heap.size + 1 + 1, 0, none⟩ x).setCell ⟨w.heap.size + 1 + 1, 1, none⟩ y).setCell ⟨w.heap.size + 1 + 1, 2, none⟩ z).cell? ⟨w.heap.size + 1 + 1, 1, none⟩ = some (rdF (((W.setCell ⟨w.heap.size + 1 + 1, 0, none⟩ x).setCell ⟨w.heap.size + 1 + 1, 1, none⟩ y).setCell ⟨w.heap.size + 1 + 1, 2, none⟩ z) (w.heap.size + 1 + 1) 1) ∧ (((W.setCell ⟨w.heap.size + 1 + 1, 0, none⟩ x).setCell ⟨w.heap.size + 1 + 1, 1, none⟩ y).setCell ⟨w.heap.size + 1 + 1, 2, none⟩ z).cell? ⟨w.heap.size + 1 + 1, 2, none⟩ = some (rdF (((W.setCell ⟨w.heap.size + 1 + 1, 0, none⟩ x).setCell ⟨w.heap.size + 1 + 1, 1, none⟩ y).setCell ⟨w.heap.size + 1 + 1, 2, none⟩ z) (w.heap.size + 1 + 1) 2) ∧ (((W.setCell ⟨w.heap.size + 1 + 1, 0, none⟩ x).setCell ⟨w.heap.size + 1 + 1, 1, none⟩ y).setCell ⟨w.heap.size + 1 + 1, 2, none⟩ z).frozen? ⟨w.heap.size + 1 + 1, 0, none⟩ = false ∧ (((W.setCell ⟨w.heap.size + 1 + 1, 0, none⟩ x).setCell ⟨w.heap.size + 1 + 1, 1, none⟩ y).setCell ⟨w.heap.size + 1 + 1, 2, none⟩ z).frozen? ⟨w.heap.size + 1 + 1, 1, none⟩ = false ∧ (((W.setCell ⟨w.heap.size + 1 + 1, 0, none⟩ x).setCell ⟨w.heap.size + 1 + 1, 1, none⟩ y).setCell ⟨w.heap.size + 1 + 1, 2, none⟩ z).frozen? ⟨w.heap.size + 1 + 1, 2, none⟩ = false ∧ Below w.heap.size w (((W.setCell ⟨w.heap.size + 1 + 1, 0, none⟩ x).setCell ⟨w.heap.size + 1 + 1, 1, none⟩ y).setCell ⟨w.heap.size + 1 + 1, 2, none⟩ z) := by
  obtain ⟨h0, h1, h2, h3, h4, h5, h6, h7, h8, h9, h10, h11, h12, h13⟩ := h
  exact ⟨by simpa [World.setCell] using h0,
    old_set (old_set (old_set h1 (by omega)) (by omega)) (by omega),
    old_set (old_set (old_set h2 (by omega)) (by omega)) (by omega),
    old_set (old_set (old_set h3 (by omega)) (by omega)) (by omega),
    old_set (old_set (old_set h4 (by omega)) (by omega)) (by omega),
    old_set (old_set (old_set h5 (by omega)) (by omega)) (by omega),
    old_set (old_set (old_set h6 (by omega)) (by omega)) (by omega),
    (by obtain ⟨_, k1⟩ := some_set (a := ⟨w.heap.size + 1 + 1, 0, none⟩) (x := x) h7; obtain ⟨_, k2⟩ := some_set (a := ⟨w.heap.size + 1 + 1, 1, none⟩) (x := y) k1; obtain ⟨_, k3⟩ := some_set (a := ⟨w.heap.size + 1 + 1, 2, none⟩) (x := z) k2; exact rd_ofF k3),
    (by obtain ⟨_, k1⟩ := some_set (a := ⟨w.heap.size + 1 + 1, 0, none⟩) (x := x) h8; obtain ⟨_, k2⟩ := some_set (a := ⟨w.heap.size + 1 + 1, 1, none⟩) (x := y) k1; obtain ⟨_, k3⟩ := some_set (a := ⟨w.heap.size + 1 + 1, 2, none⟩) (x := z) k2; exact rd_ofF k3),
    (by obtain ⟨_, k1⟩ := some_set (a := ⟨w.heap.size + 1 + 1, 0, none⟩) (x := x) h9; obtain ⟨_, k2⟩ := some_set (a := ⟨w.heap.size + 1 + 1, 1, none⟩) (x := y) k1; obtain ⟨_, k3⟩ := some_set (a := ⟨w.heap.size + 1 + 1, 2, none⟩) (x := z) k2; exact rd_ofF k3),
    (by rw [World.frozen?_setCell, World.frozen?_setCell, World.frozen?_setCell]; exact h10),
    (by rw [World.frozen?_setCell, World.frozen?_setCell, World.frozen?_setCell]; exact h11),
    (by rw [World.frozen?_setCell, World.frozen?_setCell, World.frozen?_setCell]; exact h12),
    ((h13.setCell (by simp; omega) _).setCell (by simp; omega) _).setCell (by simp; omega) _⟩
theorem startE {w : World} {a1 a2 a3 b1 b2 b3 : Int} (t : TypeId) :
    w.heap.size + 1 + 1 < ((((w.alloc (.cells #[.int .i64 a1, .int .i64 a2, .int .i64 a3] t)).alloc (.cells #[.int .i64 b1, .int .i64 b2, .int .i64 b3] t)).alloc (.cells #[.int .i64 0, .int .i64 0, .int .i64 0] t)).drew).heap.size ∧ ((((w.alloc (.cells #[.int .i64 a1, .int .i64 a2, .int .i64 a3] t)).alloc (.cells #[.int .i64 b1, .int .i64 b2, .int .i64 b3] t)).alloc (.cells #[.int .i64 0, .int .i64 0, .int .i64 0] t)).drew).cell? ⟨w.heap.size, 0, none⟩ = some (.int .i64 a1) ∧ ((((w.alloc (.cells #[.int .i64 a1, .int .i64 a2, .int .i64 a3] t)).alloc (.cells #[.int .i64 b1, .int .i64 b2, .int .i64 b3] t)).alloc (.cells #[.int .i64 0, .int .i64 0, .int .i64 0] t)).drew).cell? ⟨w.heap.size, 1, none⟩ = some (.int .i64 a2) ∧ ((((w.alloc (.cells #[.int .i64 a1, .int .i64 a2, .int .i64 a3] t)).alloc (.cells #[.int .i64 b1, .int .i64 b2, .int .i64 b3] t)).alloc (.cells #[.int .i64 0, .int .i64 0, .int .i64 0] t)).drew).cell? ⟨w.heap.size, 2, none⟩ = some (.int .i64 a3) ∧ ((((w.alloc (.cells #[.int .i64 a1, .int .i64 a2, .int .i64 a3] t)).alloc (.cells #[.int .i64 b1, .int .i64 b2, .int .i64 b3] t)).alloc (.cells #[.int .i64 0, .int .i64 0, .int .i64 0] t)).drew).cell? ⟨w.heap.size + 1, 0, none⟩ = some (.int .i64 b1) ∧ ((((w.alloc (.cells #[.int .i64 a1, .int .i64 a2, .int .i64 a3] t)).alloc (.cells #[.int .i64 b1, .int .i64 b2, .int .i64 b3] t)).alloc (.cells #[.int .i64 0, .int .i64 0, .int .i64 0] t)).drew).cell? ⟨w.heap.size + 1, 1, none⟩ = some (.int .i64 b2) ∧ ((((w.alloc (.cells #[.int .i64 a1, .int .i64 a2, .int .i64 a3] t)).alloc (.cells #[.int .i64 b1, .int .i64 b2, .int .i64 b3] t)).alloc (.cells #[.int .i64 0, .int .i64 0, .int .i64 0] t)).drew).cell? ⟨w.heap.size + 1, 2, none⟩ = some (.int .i64 b3) ∧ ((((w.alloc (.cells #[.int .i64 a1, .int .i64 a2, .int .i64 a3] t)).alloc (.cells #[.int .i64 b1, .int .i64 b2, .int .i64 b3] t)).alloc (.cells #[.int .i64 0, .int .i64 0, .int .i64 0] t)).drew).cell? ⟨w.heap.size + 1 + 1, 0, none⟩ = some (rdF ((((w.alloc (.cells #[.int .i64 a1, .int .i64 a2, .int .i64 a3] t)).alloc (.cells #[.int .i64 b1, .int .i64 b2, .int .i64 b3] t)).alloc (.cells #[.int .i64 0, .int .i64 0, .int .i64 0] t)).drew) (w.heap.size + 1 + 1) 0) ∧ ((((w.alloc (.cells #[.int .i64 a1, .int .i64 a2, .int .i64 a3] t)).alloc (.cells #[.int .i64 b1, .int .i64 b2, .int .i64 b3] t)).alloc (.cells #[.int .i64 0, .int .i64 0, .int .i64 0] t)).drew).cell? ⟨w.heap.size + 1 + 1, 1, none⟩ = some (rdF ((((w.alloc (.cells #[.int .i64 a1, .int .i64 a2, .int .i64 a3] t)).alloc (.cells #[.int .i64 b1, .int .i64 b2, .int .i64 b3] t)).alloc (.cells #[.int .i64 0, .int .i64 0, .int .i64 0] t)).drew) (w.heap.size + 1 + 1) 1) ∧ ((((w.alloc (.cells #[.int .i64 a1, .int .i64 a2, .int .i64 a3] t)).alloc (.cells #[.int .i64 b1, .int .i64 b2, .int .i64 b3] t)).alloc (.cells #[.int .i64 0, .int .i64 0, .int .i64 0] t)).drew).cell? ⟨w.heap.size + 1 + 1, 2, none⟩ = some (rdF ((((w.alloc (.cells #[.int .i64 a1, .int .i64 a2, .int .i64 a3] t)).alloc (.cells #[.int .i64 b1, .int .i64 b2, .int .i64 b3] t)).alloc (.cells #[.int .i64 0, .int .i64 0, .int .i64 0] t)).drew) (w.heap.size + 1 + 1) 2) ∧ ((((w.alloc (.cells #[.int .i64 a1, .int .i64 a2, .int .i64 a3] t)).alloc (.cells #[.int .i64 b1, .int .i64 b2, .int .i64 b3] t)).alloc (.cells #[.int .i64 0, .int .i64 0, .int .i64 0] t)).drew).frozen? ⟨w.heap.size + 1 + 1, 0, none⟩ = false ∧ ((((w.alloc (.cells #[.int .i64 a1, .int .i64 a2, .int .i64 a3] t)).alloc (.cells #[.int .i64 b1, .int .i64 b2, .int .i64 b3] t)).alloc (.cells #[.int .i64 0, .int .i64 0, .int .i64 0] t)).drew).frozen? ⟨w.heap.size + 1 + 1, 1, none⟩ = false ∧ ((((w.alloc (.cells #[.int .i64 a1, .int .i64 a2, .int .i64 a3] t)).alloc (.cells #[.int .i64 b1, .int .i64 b2, .int .i64 b3] t)).alloc (.cells #[.int .i64 0, .int .i64 0, .int .i64 0] t)).drew).frozen? ⟨w.heap.size + 1 + 1, 2, none⟩ = false ∧ Below w.heap.size w ((((w.alloc (.cells #[.int .i64 a1, .int .i64 a2, .int .i64 a3] t)).alloc (.cells #[.int .i64 b1, .int .i64 b2, .int .i64 b3] t)).alloc (.cells #[.int .i64 0, .int .i64 0, .int .i64 0] t)).drew) := by
  exact ⟨by simp [go_sem],
    by simp [go_sem],
    by simp [go_sem],
    by simp [go_sem],
    by simp [go_sem],
    by simp [go_sem],
    by simp [go_sem],
    rd_ofF (v := .int .i64 0) (by simp [go_sem]),
    rd_ofF (v := .int .i64 0) (by simp [go_sem]),
    rd_ofF (v := .int .i64 0) (by simp [go_sem]),
    by simp [go_sem],
    by simp [go_sem],
    by simp [go_sem],
    ((((Below.refl _ _).alloc (Nat.le_refl _) _).alloc (by simp) _).alloc (by simp; omega) _).drew⟩
theorem three_new {W : World} {b : Nat} {x y z u0 u1 u2 : Value} (h0 : W.cell? ⟨b, 0, none⟩ = some u0) (h1 : W.cell? ⟨b, 1, none⟩ = some u1) (h2 : W.cell? ⟨b, 2, none⟩ = some u2) :
    (((W.setCell ⟨b, 0, none⟩ x).setCell ⟨b, 1, none⟩ y).setCell ⟨b, 2, none⟩ z).cell? ⟨b, 0, none⟩ = some x ∧
    (((W.setCell ⟨b, 0, none⟩ x).setCell ⟨b, 1, none⟩ y).setCell ⟨b, 2, none⟩ z).cell? ⟨b, 1, none⟩ = some y ∧
    (((W.setCell ⟨b, 0, none⟩ x).setCell ⟨b, 1, none⟩ y).setCell ⟨b, 2, none⟩ z).cell? ⟨b, 2, none⟩ = some z := by
  have k : ∀ o u, W.cell? ⟨b, o, none⟩ = some u → ∃ v, (((W.setCell ⟨b, 0, none⟩ x).setCell ⟨b, 1, none⟩ y).setCell ⟨b, 2, none⟩ z).cell? ⟨b, o, none⟩ = some v := by
    intro o u h
    obtain ⟨_, k1⟩ := some_set (a := ⟨b, 0, none⟩) (x := x) h
    obtain ⟨_, k2⟩ := some_set (a := ⟨b, 1, none⟩) (x := y) k1
    exact some_set (a := ⟨b, 2, none⟩) (x := z) k2
  obtain ⟨_, k0⟩ := k 0 _ h0
  obtain ⟨_, k1⟩ := k 1 _ h1
  obtain ⟨_, k2⟩ := k 2 _ h2
  exact three_set k0 k1 k2
theorem addFn (a b : Int) (ha : I64 a) (hb : I64 b) (w : World) :
    Calls Try.prog 38 #[.int .i64 a, .int .i64 b] w fun e w' => e = .returned (.int .i64 (sat (a + b))) ∧ Below w.heap.size w w' :=
  (fixAdd a b ha hb w).mono fun e w' ⟨he, hw⟩ => ⟨he, hw ▸ Below.refl _ _⟩
theorem subFn (a b : Int) (ha : I64 a) (hb : I64 b) (w : World) :
    Calls Try.prog 23 #[.int .i64 a, .int .i64 b] w fun e w' => e = .returned (.int .i64 (sat (a - b))) ∧ Below w.heap.size w w' :=
  (fixSub a b ha hb w).mono fun e w' ⟨he, hw⟩ => ⟨he, hw ▸ Below.refl _ _⟩
set_option maxHeartbeats 2000000 in
theorem eachAdd (a1 a2 a3 b1 b2 b3 : Int) (ha1 : I64 a1) (ha2 : I64 a2) (ha3 : I64 a3) (hb1 : I64 b1) (hb2 : I64 b2) (hb3 : I64 b3) (w : World) :
    Calls Try.prog 32 #[.agg #[.int .i64 a1, .int .i64 a2, .int .i64 a3], .agg #[.int .i64 b1, .int .i64 b2, .int .i64 b3], .func (.func 38) #[] #[]] w fun e w' =>
      e = .returned (.agg #[.int .i64 (sat (a1 + b1)), .int .i64 (sat (a2 + b2)), .int .i64 (sat (a3 + b3))]) ∧ Below w.heap.size w w' := by
  go_enter Try.func32, Try.ntmps32
  go_wp2
  go_region_held3 (fun w' => w.heap.size + 1 + 1 < w'.heap.size ∧ w'.cell? ⟨w.heap.size, 0, none⟩ = some (.int .i64 a1) ∧ w'.cell? ⟨w.heap.size, 1, none⟩ = some (.int .i64 a2) ∧ w'.cell? ⟨w.heap.size, 2, none⟩ = some (.int .i64 a3) ∧ w'.cell? ⟨w.heap.size + 1, 0, none⟩ = some (.int .i64 b1) ∧ w'.cell? ⟨w.heap.size + 1, 1, none⟩ = some (.int .i64 b2) ∧ w'.cell? ⟨w.heap.size + 1, 2, none⟩ = some (.int .i64 b3) ∧ w'.cell? ⟨w.heap.size + 1 + 1, 0, none⟩ = some (rdF w' (w.heap.size + 1 + 1) 0) ∧ w'.cell? ⟨w.heap.size + 1 + 1, 1, none⟩ = some (rdF w' (w.heap.size + 1 + 1) 1) ∧ w'.cell? ⟨w.heap.size + 1 + 1, 2, none⟩ = some (rdF w' (w.heap.size + 1 + 1) 2) ∧ w'.frozen? ⟨w.heap.size + 1 + 1, 0, none⟩ = false ∧ w'.frozen? ⟨w.heap.size + 1 + 1, 1, none⟩ = false ∧ w'.frozen? ⟨w.heap.size + 1 + 1, 2, none⟩ = false ∧ Below w.heap.size w w')
    (first | assumption | exact startE _ | exact keepE (by assumption) (by assumption) | exact setE _ _ _ (by assumption))
    ((go_at_call 38; refine (addFn _ _ (by assumption) (by assumption) _).mono ?_; rintro e w1 ⟨rfl, bel1⟩))
  rename_i hH
  obtain ⟨r0, r1, r2⟩ := three_set hH.2.2.2.2.2.2.2.1 hH.2.2.2.2.2.2.2.2.1 hH.2.2.2.2.2.2.2.2.2.1
  have hB := hH.2.2.2.2.2.2.2.2.2.2.2.2.2
  clear hH
  go_wp2
  refine bodyPost_ret (v := .agg #[.int .i64 (sat (a1 + b1)), .int .i64 (sat (a2 + b2)), .int .i64 (sat (a3 + b3))]) ?_ rfl ⟨rfl, hB⟩
  simp [results, Try.results32, go_sem, r0, r1, r2]
set_option maxHeartbeats 2000000 in
theorem eachSub (a1 a2 a3 b1 b2 b3 : Int) (ha1 : I64 a1) (ha2 : I64 a2) (ha3 : I64 a3) (hb1 : I64 b1) (hb2 : I64 b2) (hb3 : I64 b3) (w : World) :
    Calls Try.prog 32 #[.agg #[.int .i64 a1, .int .i64 a2, .int .i64 a3], .agg #[.int .i64 b1, .int .i64 b2, .int .i64 b3], .func (.func 23) #[] #[]] w fun e w' =>
      e = .returned (.agg #[.int .i64 (sat (a1 - b1)), .int .i64 (sat (a2 - b2)), .int .i64 (sat (a3 - b3))]) ∧ Below w.heap.size w w' := by
  go_enter Try.func32, Try.ntmps32
  go_wp2
  go_region_held3 (fun w' => w.heap.size + 1 + 1 < w'.heap.size ∧ w'.cell? ⟨w.heap.size, 0, none⟩ = some (.int .i64 a1) ∧ w'.cell? ⟨w.heap.size, 1, none⟩ = some (.int .i64 a2) ∧ w'.cell? ⟨w.heap.size, 2, none⟩ = some (.int .i64 a3) ∧ w'.cell? ⟨w.heap.size + 1, 0, none⟩ = some (.int .i64 b1) ∧ w'.cell? ⟨w.heap.size + 1, 1, none⟩ = some (.int .i64 b2) ∧ w'.cell? ⟨w.heap.size + 1, 2, none⟩ = some (.int .i64 b3) ∧ w'.cell? ⟨w.heap.size + 1 + 1, 0, none⟩ = some (rdF w' (w.heap.size + 1 + 1) 0) ∧ w'.cell? ⟨w.heap.size + 1 + 1, 1, none⟩ = some (rdF w' (w.heap.size + 1 + 1) 1) ∧ w'.cell? ⟨w.heap.size + 1 + 1, 2, none⟩ = some (rdF w' (w.heap.size + 1 + 1) 2) ∧ w'.frozen? ⟨w.heap.size + 1 + 1, 0, none⟩ = false ∧ w'.frozen? ⟨w.heap.size + 1 + 1, 1, none⟩ = false ∧ w'.frozen? ⟨w.heap.size + 1 + 1, 2, none⟩ = false ∧ Below w.heap.size w w')
    (first | assumption | exact startE _ | exact keepE (by assumption) (by assumption) | exact setE _ _ _ (by assumption))
    ((go_at_call 23; refine (subFn _ _ (by assumption) (by assumption) _).mono ?_; rintro e w1 ⟨rfl, bel1⟩))
  rename_i hH
  obtain ⟨r0, r1, r2⟩ := three_set hH.2.2.2.2.2.2.2.1 hH.2.2.2.2.2.2.2.2.1 hH.2.2.2.2.2.2.2.2.2.1
  have hB := hH.2.2.2.2.2.2.2.2.2.2.2.2.2
  clear hH
  go_wp2
  refine bodyPost_ret (v := .agg #[.int .i64 (sat (a1 - b1)), .int .i64 (sat (a2 - b2)), .int .i64 (sat (a3 - b3))]) ?_ rfl ⟨rfl, hB⟩
  simp [results, Try.results32, go_sem, r0, r1, r2]
theorem fixVecPlus (a1 a2 a3 b1 b2 b3 : Int) (ha1 : I64 a1) (ha2 : I64 a2) (ha3 : I64 a3) (hb1 : I64 b1) (hb2 : I64 b2) (hb3 : I64 b3) (w : World) :
    Calls Try.prog 29 #[.agg #[.int .i64 a1, .int .i64 a2, .int .i64 a3], .agg #[.int .i64 b1, .int .i64 b2, .int .i64 b3]] w fun e w' =>
      e = .returned (.agg #[.int .i64 (sat (a1 + b1)), .int .i64 (sat (a2 + b2)), .int .i64 (sat (a3 + b3))]) ∧ Below w.heap.size w w' := by
  go_enter Try.func29, Try.ntmps29
  go_wp2_with fail
  refine (eachAdd a1 a2 a3 b1 b2 b3 ha1 ha2 ha3 hb1 hb2 hb3 _).mono ?_
  rintro e w1 ⟨rfl, bel⟩
  obtain ⟨hc, hf⟩ := bcell bel
  have hz : w.heap.size + 1 + 1 < w1.heap.size := by have := bel.size; simp at this; omega
  go_wp2
  obtain ⟨r0, r1, r2⟩ := three_new (W := w1) (b := w.heap.size + 1 + 1) (x := .int .i64 (sat (a1 + b1))) (y := .int .i64 (sat (a2 + b2))) (z := .int .i64 (sat (a3 + b3))) (u0 := .int .i64 0) (u1 := .int .i64 0) (u2 := .int .i64 0)
    (by rw [hc _ _ (by simp)]; simp [go_sem]) (by rw [hc _ _ (by simp)]; simp [go_sem]) (by rw [hc _ _ (by simp)]; simp [go_sem])
  clear hc hf
  refine bodyPost_ret (v := .agg #[.int .i64 (sat (a1 + b1)), .int .i64 (sat (a2 + b2)), .int .i64 (sat (a3 + b3))]) ?_ rfl ⟨rfl, ?_⟩
  · simp [results, Try.results29, go_sem, r0, r1, r2]
  · exact ((((((Below.refl _ _).alloc (Nat.le_refl _) _).alloc (by simp) _).alloc (by simp; omega) _).trans (bel.mono (by simp; omega))).setCell (by simp; omega) _).setCell (by simp; omega) _ |>.setCell (by simp; omega) _
theorem fixVecMinus (a1 a2 a3 b1 b2 b3 : Int) (ha1 : I64 a1) (ha2 : I64 a2) (ha3 : I64 a3) (hb1 : I64 b1) (hb2 : I64 b2) (hb3 : I64 b3) (w : World) :
    Calls Try.prog 28 #[.agg #[.int .i64 a1, .int .i64 a2, .int .i64 a3], .agg #[.int .i64 b1, .int .i64 b2, .int .i64 b3]] w fun e w' =>
      e = .returned (.agg #[.int .i64 (sat (a1 - b1)), .int .i64 (sat (a2 - b2)), .int .i64 (sat (a3 - b3))]) ∧ Below w.heap.size w w' := by
  go_enter Try.func28, Try.ntmps28
  go_wp2_with fail
  refine (eachSub a1 a2 a3 b1 b2 b3 ha1 ha2 ha3 hb1 hb2 hb3 _).mono ?_
  rintro e w1 ⟨rfl, bel⟩
  obtain ⟨hc, hf⟩ := bcell bel
  have hz : w.heap.size + 1 + 1 < w1.heap.size := by have := bel.size; simp at this; omega
  go_wp2
  obtain ⟨r0, r1, r2⟩ := three_new (W := w1) (b := w.heap.size + 1 + 1) (x := .int .i64 (sat (a1 - b1))) (y := .int .i64 (sat (a2 - b2))) (z := .int .i64 (sat (a3 - b3))) (u0 := .int .i64 0) (u1 := .int .i64 0) (u2 := .int .i64 0)
    (by rw [hc _ _ (by simp)]; simp [go_sem]) (by rw [hc _ _ (by simp)]; simp [go_sem]) (by rw [hc _ _ (by simp)]; simp [go_sem])
  clear hc hf
  refine bodyPost_ret (v := .agg #[.int .i64 (sat (a1 - b1)), .int .i64 (sat (a2 - b2)), .int .i64 (sat (a3 - b3))]) ?_ rfl ⟨rfl, ?_⟩
  · simp [results, Try.results28, go_sem, r0, r1, r2]
  · exact ((((((Below.refl _ _).alloc (Nat.le_refl _) _).alloc (by simp) _).alloc (by simp; omega) _).trans (bel.mono (by simp; omega))).setCell (by simp; omega) _).setCell (by simp; omega) _ |>.setCell (by simp; omega) _
end Go.Proofs.Ythcmcjklhcfenaa
