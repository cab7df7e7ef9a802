/- Layer 1 (fix): Clamp, beside GsF -/
import Derived.Test.YthcmcjklhcfenaaGsF
import Derived.WalkKit
import Derived.WalkSpells
import Derived.WalkLawsBesides
import Derived.Shelf.Spec.BitsCarry
import Derived.Deep.RegionHeld3
import Derived.Deep.DrawnRows
import Derived.LoopTactic
namespace Go.Proofs.Ythcmcjklhcfenaa
open Go.RowKit
set_option linter.unusedVariables false
attribute [local go_sem ↓] Go.wp_at_zero Go.wp_at_succ

theorem i64_0 : I64 0 := ⟨by omega, by omega⟩
theorem fixNeg (a : Int) (ha : I64 a) (w : World) :
    Calls Try.prog 34 #[.int .i64 a] w fun e w' => e = .returned (.int .i64 (sat (-a))) ∧ w' = w := by
  go_enter Try.func34, Try.ntmps34
  go_wp2_with (go_at_call 23; refine (fixSub 0 a i64_0 ha _).mono ?_; rintro e w' ⟨rfl, rfl⟩)
  go_ret
  exact ⟨rfl, rfl⟩
def fclamp (x n : Int) : Int := if n < x then n else if x < -n then -n else x
theorem negFn (n : Int) (hn : I64 n) (h0 : 0 ≤ n) (w : World) :
    Calls Try.prog 34 #[.int .i64 n] w fun e w' => e = .returned (.int .i64 (-n)) ∧ w' = w :=
  (fixNeg n hn w).mono fun e w' ⟨he, hw⟩ => ⟨he.trans (ret_intF (sat_id ⟨by have := hn.hi; omega, by omega⟩)), hw⟩
theorem clampFn (x y n : Int) (c : Nat) (hn : I64 n) (h0 : 0 ≤ n) (w : World) (hc : w.cell? ⟨c, 0, none⟩ = some (.int .i64 n)) :
    Calls Try.prog 33 #[.int .i64 x, .int .i64 y, .pointer (some ⟨c, 0, none⟩)] w fun e w' => e = .returned (.int .i64 (fclamp x n)) ∧ Below w.heap.size w w' := by
  have hcd : w.drew.cell? ⟨c, 0, none⟩ = some (.int .i64 n) := hc
  have h2 : ¬ n < -n := by omega
  by_cases h1 : n < x
  · have hr : fclamp x n = n := by unfold fclamp; rw [if_pos h1]
    rw [hr]
    clear hr
    go_enter Try.func33, Try.ntmps33
    go_wp2
    go_region_held3 (fun w' => w'.cell? ⟨c, 0, none⟩ = some (.int .i64 n)) (assumption)
      ((go_at_call 34; refine (negFn n hn h0 _).mono ?_; rintro e w1 ⟨rfl, rfl⟩))
    all_goals first | (exfalso; omega) | (go_wp2; go_ret; exact ⟨rfl, (Below.refl _ _).drew⟩)
  · by_cases h3 : x < -n
    · have hr : fclamp x n = -n := by unfold fclamp; rw [if_neg h1, if_pos h3]
      rw [hr]
      clear hr
      go_enter Try.func33, Try.ntmps33
      go_wp2
      go_region_held3 (fun w' => w'.cell? ⟨c, 0, none⟩ = some (.int .i64 n)) (assumption)
        ((go_at_call 34; refine (negFn n hn h0 _).mono ?_; rintro e w1 ⟨rfl, rfl⟩))
      all_goals first | (exfalso; omega) | (go_wp2; go_ret; exact ⟨rfl, (Below.refl _ _).drew⟩)
    · have hr : fclamp x n = x := by unfold fclamp; rw [if_neg h1, if_neg h3]
      rw [hr]
      clear hr
      go_enter Try.func33, Try.ntmps33
      go_wp2
      go_region_held3 (fun w' => w'.cell? ⟨c, 0, none⟩ = some (.int .i64 n)) (assumption)
        ((go_at_call 34; refine (negFn n hn h0 _).mono ?_; rintro e w1 ⟨rfl, rfl⟩))
      all_goals first | (exfalso; omega) | (go_wp2; go_ret; exact ⟨rfl, (Below.refl _ _).drew⟩)
theorem keepEC {w W w1 : World} {a1 a2 a3 b1 b2 b3 n : Int} {c : Nat} (hc : c < w.heap.size) (hb : Below W.heap.size W w1) (h : w.heap.size + 1 + 1 < W.heap.size ∧ W.cell? ⟨w.heap.size, 0, none⟩ = some (.int .i64 a1) ∧ W.cell? ⟨w.heap.size, 1, none⟩ = some (.int .i64 a2) ∧ W.cell? ⟨w.heap.size, 2, none⟩ = some (.int .i64 a3) ∧ W.cell? ⟨w.heap.size + 1, 0, none⟩ = some (.int .i64 b1) ∧ W.cell? ⟨w.heap.size + 1, 1, none⟩ = some (.int .i64 b2) ∧ W.cell? ⟨w.heap.size + 1, 2, none⟩ = some (.int .i64 b3) ∧ W.cell? ⟨w.heap.size + 1 + 1, 0, none⟩ = some (rdF W (w.heap.size + 1 + 1) 0) ∧ W.cell? ⟨w.heap.size + 1 + 1, 1, none⟩ = some (rdF W (w.heap.size + 1 + 1) 1) ∧ W.cell? ⟨w.heap.size + 1 + 1, 2, none⟩ = some (rdF W (w.heap.size + 1 + 1) 2) ∧ W.frozen? ⟨w.heap.size + 1 + 1, 0, none⟩ = false ∧ W.frozen? ⟨w.heap.size + 1 + 1, 1, none⟩ = false ∧ W.frozen? ⟨w.heap.size + 1 + 1, 2, none⟩ = false ∧ W.cell? ⟨c, 0, none⟩ = some (.int .i64 n) ∧ Below w.heap.size w W) :
    w.heap.size + 1 + 1 < w1.heap.size ∧ w1.cell? ⟨w.heap.size, 0, none⟩ = some (.int .i64 a1) ∧ w1.cell? ⟨w.heap.size, 1, none⟩ = some (.int .i64 a2) ∧ w1.cell? ⟨w.heap.size, 2, none⟩ = some (.int .i64 a3) ∧ w1.cell? ⟨w.heap.size + 1, 0, none⟩ = some (.int .i64 b1) ∧ w1.cell? ⟨w.heap.size + 1, 1, none⟩ = some (.int .i64 b2) ∧ w1.cell? ⟨w.heap.size + 1, 2, none⟩ = some (.int .i64 b3) ∧ w1.cell? ⟨w.heap.size + 1 + 1, 0, none⟩ = some (rdF w1 (w.heap.size + 1 + 1) 0) ∧ w1.cell? ⟨w.heap.size + 1 + 1, 1, none⟩ = some (rdF w1 (w.heap.size + 1 + 1) 1) ∧ w1.cell? ⟨w.heap.size + 1 + 1, 2, none⟩ = some (rdF w1 (w.heap.size + 1 + 1) 2) ∧ w1.frozen? ⟨w.heap.size + 1 + 1, 0, none⟩ = false ∧ w1.frozen? ⟨w.heap.size + 1 + 1, 1, none⟩ = false ∧ w1.frozen? ⟨w.heap.size + 1 + 1, 2, none⟩ = false ∧ w1.cell? ⟨c, 0, none⟩ = some (.int .i64 n) ∧ Below w.heap.size w w1 := by
  obtain ⟨h0, h1, h2, h3, h4, h5, h6, h7, h8, h9, h10, h11, h12, h13, h14⟩ := h
  exact ⟨Nat.lt_of_lt_of_le h0 hb.size, keepCell hb (by omega) h1, keepCell hb (by omega) h2, keepCell hb (by omega) h3, keepCell hb (by omega) h4, keepCell hb (by omega) h5, keepCell hb (by omega) h6, rd_ofF (keepCell hb (by omega) h7), rd_ofF (keepCell hb (by omega) h8), rd_ofF (keepCell hb (by omega) h9), keepFrozen hb (by omega) h10, keepFrozen hb (by omega) h11, keepFrozen hb (by omega) h12, keepCell hb (by omega) h13, h14.trans (hb.mono (by omega))⟩
theorem setEC {w W : World} {a1 a2 a3 b1 b2 b3 n : Int} {c : Nat} (hc : c < w.heap.size) (x y z : Value) (h : w.heap.size + 1 + 1 < W.heap.size ∧ W.cell? ⟨w.heap.size, 0, none⟩ = some (.int .i64 a1) ∧ W.cell? ⟨w.heap.size, 1, none⟩ = some (.int .i64 a2) ∧ W.cell? ⟨w.heap.size, 2, none⟩ = some (.int .i64 a3) ∧ W.cell? ⟨w.heap.size + 1, 0, none⟩ = some (.int .i64 b1) ∧ W.cell? ⟨w.heap.size + 1, 1, none⟩ = some (.int .i64 b2) ∧ W.cell? ⟨w.heap.size + 1, 2, none⟩ = some (.int .i64 b3) ∧ W.cell? ⟨w.heap.size + 1 + 1, 0, none⟩ = some (rdF W (w.heap.size + 1 + 1) 0) ∧ W.cell? ⟨w.heap.size + 1 + 1, 1, none⟩ = some (rdF W (w.heap.size + 1 + 1) 1) ∧ W.cell? ⟨w.heap.size + 1 + 1, 2, none⟩ = some (rdF W (w.heap.size + 1 + 1) 2) ∧ W.frozen? ⟨w.heap.size + 1 + 1, 0, none⟩ = false ∧ W.frozen? ⟨w.heap.size + 1 + 1, 1, none⟩ = false ∧ W.frozen? ⟨w.heap.size + 1 + 1, 2, none⟩ = false ∧ W.cell? ⟨c, 0, none⟩ = some (.int .i64 n) ∧ Below w.heap.size w W) :
    w.heap.size + 1 + 1 < (((W.setCell ⟨w.heap.size + 1 + 1, 0, none⟩ x).setCell ⟨w.heap.size + 1 + 1, 1, none⟩ y).setCell ⟨w.heap.size + 1 + 1, 2, none⟩ z).heap.size ∧ (((W.setCell ⟨w.heap.size + 1 + 1, 0, none⟩ x).setCell ⟨w.heap.size + 1 + 1, 1, none⟩ y).setCell ⟨w.heap.size + 1 + 1, 2, none⟩ z).cell? ⟨w.heap.size, 0, none⟩ = some (.int .i64 a1) ∧ (((W.setCell ⟨w.heap.size + 1 + 1, 0, none⟩ x).setCell ⟨w.heap.size + 1 + 1, 1, none⟩ y).setCell ⟨w.heap.size + 1 + 1, 2, none⟩ z).cell? ⟨w.heap.size, 1, none⟩ = some (.int .i64 a2) ∧ (((W.setCell ⟨w.heap.size + 1 + 1, 0, none⟩ x).setCell ⟨w.heap.size + 1 + 1, 1, none⟩ y).setCell ⟨w.heap.size + 1 + 1, 2, none⟩ z).cell? ⟨w.heap.size, 2, none⟩ = some (.int .i64 a3) ∧ (((W.setCell ⟨w.heap.size + 1 + 1, 0, none⟩ x).setCell ⟨w.heap.size + 1 + 1, 1, none⟩ y).setCell ⟨w.heap.size + 1 + 1, 2, none⟩ z).cell? ⟨w.heap.size + 1, 0, none⟩ = some (.int .i64 b1) ∧ (((W.setCell ⟨w.heap.size + 1 + 1, 0, none⟩ x).setCell ⟨w.heap.size + 1 + 1, 1, none⟩ y).setCell ⟨w.heap.size + 1 + 1, 2, none⟩ z).cell? ⟨w.heap.size + 1, 1, none⟩ = some (.int .i64 b2) ∧ (((W.setCell ⟨w.heap.size + 1 + 1, 0, none⟩ x).setCell ⟨w.heap.size + 1 + 1, 1, none⟩ y).setCell ⟨w.heap.size + 1 + 1, 2, none⟩ z).cell? ⟨w.heap.size + 1, 2, none⟩ = some (.int .i64 b3) ∧ (((W.setCell ⟨w.heap.size + 1 + 1, 0, none⟩ x).setCell ⟨w.heap.size + 1 + 1, 1, none⟩ y).setCell ⟨w.heap.size + 1 + 1, 2, none⟩ z).cell? ⟨w.heap.size + 1 + 1, 0, none⟩ = some (rdF (((W.setCell ⟨w.heap.size + 1 + 1, 0, none⟩ x).setCell ⟨w.heap.size + 1 + 1, 1, none⟩ y).setCell ⟨w.heap.size + 1 + 1, 2, none⟩ z) (w.heap.size + 1 + 1) 0) ∧ (((W.setCell ⟨w.heap.size + 1 + 1, 0, none⟩ x).setCell ⟨w.heap.size + 1 + 1, 1, none⟩ y).setCell ⟨w.heap.size + 1 + 1, 2, none⟩ z).cell? ⟨w.heap.size + 1 + 1, 1, none⟩ = some (rdF (((W.setCell ⟨w.heap.size + 1 + 1, 0, none⟩ x).setCell ⟨w.heap.size + 1 + 1, 1, none⟩ y).setCell ⟨w.heap.size + 1 + 1, 2, none⟩ z) (w.heap.size + 1 + 1) 1) ∧ (((W.setCell ⟨w.heap.size + 1 + 1, 0, none⟩ x).setCell ⟨w.heap.size + 1 + 1, 1, none⟩ y).setCell ⟨w.heap.size + 1 + 1, 2, none⟩ z).cell? ⟨w.heap.size + 1 + 1, 2, none⟩ = some (rdF (((W.setCell ⟨w.heap.size + 1 + 1, 0, none⟩ x).setCell ⟨w.heap.size + 1 + 1, 1, none⟩ y).setCell ⟨w.heap.size + 1 + 1, 2, none⟩ z) (w.heap.size + 1 + 1) 2) ∧ (((W.setCell ⟨w.heap.size + 1 + 1, 0, none⟩ x).setCell ⟨w.heap.size + 1 + 1, 1, none⟩ y).setCell ⟨w.heap.size + 1 + 1, 2, none⟩ z).frozen? ⟨w.heap.size + 1 + 1, 0, none⟩ = false ∧ (((W.setCell ⟨w.heap.size + 1 + 1, 0, none⟩ x).setCell ⟨w.heap.size + 1 + 1, 1, none⟩ y).setCell ⟨w.heap.size + 1 + 1, 2, none⟩ z).frozen? ⟨w.heap.size + 1 + 1, 1, none⟩ = false ∧ (((W.setCell ⟨w.heap.size + 1 + 1, 0, none⟩ x).setCell ⟨w.heap.size + 1 + 1, 1, none⟩ y).setCell ⟨w.heap.size + 1 + 1, 2, none⟩ z).frozen? ⟨w.heap.size + 1 + 1, 2, none⟩ = false ∧ (((W.setCell ⟨w.heap.size + 1 + 1, 0, none⟩ x).setCell ⟨w.heap.size + 1 + 1, 1, none⟩ y).setCell ⟨w.heap.size + 1 + 1, 2, none⟩ z).cell? ⟨c, 0, none⟩ = some (.int .i64 n) ∧ Below w.heap.size w (((W.setCell ⟨w.heap.size + 1 + 1, 0, none⟩ x).setCell ⟨w.heap.size + 1 + 1, 1, none⟩ y).setCell ⟨w.heap.size + 1 + 1, 2, none⟩ z) := by
  obtain ⟨h0, h1, h2, h3, h4, h5, h6, h7, h8, h9, h10, h11, h12, h13, h14⟩ := h
  exact ⟨by simpa [World.setCell] using h0,
    old_set (old_set (old_set h1 (by omega)) (by omega)) (by omega),
    old_set (old_set (old_set h2 (by omega)) (by omega)) (by omega),
    old_set (old_set (old_set h3 (by omega)) (by omega)) (by omega),
    old_set (old_set (old_set h4 (by omega)) (by omega)) (by omega),
    old_set (old_set (old_set h5 (by omega)) (by omega)) (by omega),
    old_set (old_set (old_set h6 (by omega)) (by omega)) (by omega),
    (by obtain ⟨_, k1⟩ := some_set (a := ⟨w.heap.size + 1 + 1, 0, none⟩) (x := x) h7; obtain ⟨_, k2⟩ := some_set (a := ⟨w.heap.size + 1 + 1, 1, none⟩) (x := y) k1; obtain ⟨_, k3⟩ := some_set (a := ⟨w.heap.size + 1 + 1, 2, none⟩) (x := z) k2; exact rd_ofF k3),
    (by obtain ⟨_, k1⟩ := some_set (a := ⟨w.heap.size + 1 + 1, 0, none⟩) (x := x) h8; obtain ⟨_, k2⟩ := some_set (a := ⟨w.heap.size + 1 + 1, 1, none⟩) (x := y) k1; obtain ⟨_, k3⟩ := some_set (a := ⟨w.heap.size + 1 + 1, 2, none⟩) (x := z) k2; exact rd_ofF k3),
    (by obtain ⟨_, k1⟩ := some_set (a := ⟨w.heap.size + 1 + 1, 0, none⟩) (x := x) h9; obtain ⟨_, k2⟩ := some_set (a := ⟨w.heap.size + 1 + 1, 1, none⟩) (x := y) k1; obtain ⟨_, k3⟩ := some_set (a := ⟨w.heap.size + 1 + 1, 2, none⟩) (x := z) k2; exact rd_ofF k3),
    (by rw [World.frozen?_setCell, World.frozen?_setCell, World.frozen?_setCell]; exact h10),
    (by rw [World.frozen?_setCell, World.frozen?_setCell, World.frozen?_setCell]; exact h11),
    (by rw [World.frozen?_setCell, World.frozen?_setCell, World.frozen?_setCell]; exact h12),
    old_set (old_set (old_set h13 (by omega)) (by omega)) (by omega),
    ((h14.setCell (by simp; omega) _).setCell (by simp; omega) _).setCell (by simp; omega) _⟩
theorem startEC {w : World} {a1 a2 a3 b1 b2 b3 n : Int} {c : Nat} (hc : c < w.heap.size) (t : TypeId) (hcell : w.cell? ⟨c, 0, none⟩ = some (.int .i64 n)) :
    w.heap.size + 1 + 1 < ((((w.alloc (.cells #[.int .i64 a1, .int .i64 a2, .int .i64 a3] t)).alloc (.cells #[.int .i64 b1, .int .i64 b2, .int .i64 b3] t)).alloc (.cells #[.int .i64 0, .int .i64 0, .int .i64 0] t)).drew).heap.size ∧ ((((w.alloc (.cells #[.int .i64 a1, .int .i64 a2, .int .i64 a3] t)).alloc (.cells #[.int .i64 b1, .int .i64 b2, .int .i64 b3] t)).alloc (.cells #[.int .i64 0, .int .i64 0, .int .i64 0] t)).drew).cell? ⟨w.heap.size, 0, none⟩ = some (.int .i64 a1) ∧ ((((w.alloc (.cells #[.int .i64 a1, .int .i64 a2, .int .i64 a3] t)).alloc (.cells #[.int .i64 b1, .int .i64 b2, .int .i64 b3] t)).alloc (.cells #[.int .i64 0, .int .i64 0, .int .i64 0] t)).drew).cell? ⟨w.heap.size, 1, none⟩ = some (.int .i64 a2) ∧ ((((w.alloc (.cells #[.int .i64 a1, .int .i64 a2, .int .i64 a3] t)).alloc (.cells #[.int .i64 b1, .int .i64 b2, .int .i64 b3] t)).alloc (.cells #[.int .i64 0, .int .i64 0, .int .i64 0] t)).drew).cell? ⟨w.heap.size, 2, none⟩ = some (.int .i64 a3) ∧ ((((w.alloc (.cells #[.int .i64 a1, .int .i64 a2, .int .i64 a3] t)).alloc (.cells #[.int .i64 b1, .int .i64 b2, .int .i64 b3] t)).alloc (.cells #[.int .i64 0, .int .i64 0, .int .i64 0] t)).drew).cell? ⟨w.heap.size + 1, 0, none⟩ = some (.int .i64 b1) ∧ ((((w.alloc (.cells #[.int .i64 a1, .int .i64 a2, .int .i64 a3] t)).alloc (.cells #[.int .i64 b1, .int .i64 b2, .int .i64 b3] t)).alloc (.cells #[.int .i64 0, .int .i64 0, .int .i64 0] t)).drew).cell? ⟨w.heap.size + 1, 1, none⟩ = some (.int .i64 b2) ∧ ((((w.alloc (.cells #[.int .i64 a1, .int .i64 a2, .int .i64 a3] t)).alloc (.cells #[.int .i64 b1, .int .i64 b2, .int .i64 b3] t)).alloc (.cells #[.int .i64 0, .int .i64 0, .int .i64 0] t)).drew).cell? ⟨w.heap.size + 1, 2, none⟩ = some (.int .i64 b3) ∧ ((((w.alloc (.cells #[.int .i64 a1, .int .i64 a2, .int .i64 a3] t)).alloc (.cells #[.int .i64 b1, .int .i64 b2, .int .i64 b3] t)).alloc (.cells #[.int .i64 0, .int .i64 0, .int .i64 0] t)).drew).cell? ⟨w.heap.size + 1 + 1, 0, none⟩ = some (rdF ((((w.alloc (.cells #[.int .i64 a1, .int .i64 a2, .int .i64 a3] t)).alloc (.cells #[.int .i64 b1, .int .i64 b2, .int .i64 b3] t)).alloc (.cells #[.int .i64 0, .int .i64 0, .int .i64 0] t)).drew) (w.heap.size + 1 + 1) 0) ∧ ((((w.alloc (.cells #[.int .i64 a1, .int .i64 a2, .int .i64 a3] t)).alloc (.cells #[.int .i64 b1, .int .i64 b2, .int .i64 b3] t)).alloc (.cells #[.int .i64 0, .int .i64 0, .int .i64 0] t)).drew).cell? ⟨w.heap.size + 1 + 1, 1, none⟩ = some (rdF ((((w.alloc (.cells #[.int .i64 a1, .int .i64 a2, .int .i64 a3] t)).alloc (.cells #[.int .i64 b1, .int .i64 b2, .int .i64 b3] t)).alloc (.cells #[.int .i64 0, .int .i64 0, .int .i64 0] t)).drew) (w.heap.size + 1 + 1) 1) ∧ ((((w.alloc (.cells #[.int .i64 a1, .int .i64 a2, .int .i64 a3] t)).alloc (.cells #[.int .i64 b1, .int .i64 b2, .int .i64 b3] t)).alloc (.cells #[.int .i64 0, .int .i64 0, .int .i64 0] t)).drew).cell? ⟨w.heap.size + 1 + 1, 2, none⟩ = some (rdF ((((w.alloc (.cells #[.int .i64 a1, .int .i64 a2, .int .i64 a3] t)).alloc (.cells #[.int .i64 b1, .int .i64 b2, .int .i64 b3] t)).alloc (.cells #[.int .i64 0, .int .i64 0, .int .i64 0] t)).drew) (w.heap.size + 1 + 1) 2) ∧ ((((w.alloc (.cells #[.int .i64 a1, .int .i64 a2, .int .i64 a3] t)).alloc (.cells #[.int .i64 b1, .int .i64 b2, .int .i64 b3] t)).alloc (.cells #[.int .i64 0, .int .i64 0, .int .i64 0] t)).drew).frozen? ⟨w.heap.size + 1 + 1, 0, none⟩ = false ∧ ((((w.alloc (.cells #[.int .i64 a1, .int .i64 a2, .int .i64 a3] t)).alloc (.cells #[.int .i64 b1, .int .i64 b2, .int .i64 b3] t)).alloc (.cells #[.int .i64 0, .int .i64 0, .int .i64 0] t)).drew).frozen? ⟨w.heap.size + 1 + 1, 1, none⟩ = false ∧ ((((w.alloc (.cells #[.int .i64 a1, .int .i64 a2, .int .i64 a3] t)).alloc (.cells #[.int .i64 b1, .int .i64 b2, .int .i64 b3] t)).alloc (.cells #[.int .i64 0, .int .i64 0, .int .i64 0] t)).drew).frozen? ⟨w.heap.size + 1 + 1, 2, none⟩ = false ∧ ((((w.alloc (.cells #[.int .i64 a1, .int .i64 a2, .int .i64 a3] t)).alloc (.cells #[.int .i64 b1, .int .i64 b2, .int .i64 b3] t)).alloc (.cells #[.int .i64 0, .int .i64 0, .int .i64 0] t)).drew).cell? ⟨c, 0, none⟩ = some (.int .i64 n) ∧ Below w.heap.size w ((((w.alloc (.cells #[.int .i64 a1, .int .i64 a2, .int .i64 a3] t)).alloc (.cells #[.int .i64 b1, .int .i64 b2, .int .i64 b3] t)).alloc (.cells #[.int .i64 0, .int .i64 0, .int .i64 0] t)).drew) := by
  exact ⟨by simp [go_sem],
    by simp [go_sem],
    by simp [go_sem],
    by simp [go_sem],
    by simp [go_sem],
    by simp [go_sem],
    by simp [go_sem],
    rd_ofF (v := .int .i64 0) (by simp [go_sem]),
    rd_ofF (v := .int .i64 0) (by simp [go_sem]),
    rd_ofF (v := .int .i64 0) (by simp [go_sem]),
    by simp [go_sem],
    by simp [go_sem],
    by simp [go_sem],
    by show (((w.alloc _).alloc _).alloc _).cell? _ = _; rw [World.cell?_alloc_past _ _ _ (by simp; omega), World.cell?_alloc_past _ _ _ (by simp; omega), World.cell?_alloc_past _ _ _ hc]; exact hcell,
    ((((Below.refl _ _).alloc (Nat.le_refl _) _).alloc (by simp) _).alloc (by simp; omega) _).drew⟩
set_option maxHeartbeats 2000000 in
theorem eachClamp (a1 a2 a3 b1 b2 b3 : Int) (ha1 : I64 a1) (ha2 : I64 a2) (ha3 : I64 a3) (hb1 : I64 b1) (hb2 : I64 b2) (hb3 : I64 b3) (c : Nat) (n : Int) (hn : I64 n) (hne : 0 ≤ n) (w : World) (hc : c < w.heap.size) (hcell : w.cell? ⟨c, 0, none⟩ = some (.int .i64 n)) :
    Calls Try.prog 32 #[.agg #[.int .i64 a1, .int .i64 a2, .int .i64 a3], .agg #[.int .i64 b1, .int .i64 b2, .int .i64 b3], .func (.func 33) #[] #[.pointer (some ⟨c, 0, none⟩)]] w fun e w' =>
      e = .returned (.agg #[.int .i64 (fclamp a1 n), .int .i64 (fclamp a2 n), .int .i64 (fclamp a3 n)]) ∧ Below w.heap.size w w' := by
  go_enter Try.func32, Try.ntmps32
  go_wp2
  go_region_held3 (fun w' => w.heap.size + 1 + 1 < w'.heap.size ∧ w'.cell? ⟨w.heap.size, 0, none⟩ = some (.int .i64 a1) ∧ w'.cell? ⟨w.heap.size, 1, none⟩ = some (.int .i64 a2) ∧ w'.cell? ⟨w.heap.size, 2, none⟩ = some (.int .i64 a3) ∧ w'.cell? ⟨w.heap.size + 1, 0, none⟩ = some (.int .i64 b1) ∧ w'.cell? ⟨w.heap.size + 1, 1, none⟩ = some (.int .i64 b2) ∧ w'.cell? ⟨w.heap.size + 1, 2, none⟩ = some (.int .i64 b3) ∧ w'.cell? ⟨w.heap.size + 1 + 1, 0, none⟩ = some (rdF w' (w.heap.size + 1 + 1) 0) ∧ w'.cell? ⟨w.heap.size + 1 + 1, 1, none⟩ = some (rdF w' (w.heap.size + 1 + 1) 1) ∧ w'.cell? ⟨w.heap.size + 1 + 1, 2, none⟩ = some (rdF w' (w.heap.size + 1 + 1) 2) ∧ w'.frozen? ⟨w.heap.size + 1 + 1, 0, none⟩ = false ∧ w'.frozen? ⟨w.heap.size + 1 + 1, 1, none⟩ = false ∧ w'.frozen? ⟨w.heap.size + 1 + 1, 2, none⟩ = false ∧ w'.cell? ⟨c, 0, none⟩ = some (.int .i64 n) ∧ Below w.heap.size w w')
    (first | assumption | exact startEC hc _ hcell | exact keepEC hc (by assumption) (by assumption) | exact setEC hc _ _ _ (by assumption))
    ((go_at_call 33; refine (clampFn _ _ n c hn hne _ ?_).mono ?_; go_split_ands; assumption; rintro e w1 ⟨rfl, bel1⟩))
  rename_i hH
  obtain ⟨r0, r1, r2⟩ := three_set hH.2.2.2.2.2.2.2.1 hH.2.2.2.2.2.2.2.2.1 hH.2.2.2.2.2.2.2.2.2.1
  have hB := hH.2.2.2.2.2.2.2.2.2.2.2.2.2.2
  clear hH
  go_wp2
  refine bodyPost_ret (v := .agg #[.int .i64 (fclamp a1 n), .int .i64 (fclamp a2 n), .int .i64 (fclamp a3 n)]) ?_ rfl ⟨rfl, hB⟩
  simp [results, Try.results32, go_sem, r0, r1, r2]
theorem fixVecClampP (a1 a2 a3 n : Int) (ha1 : I64 a1) (ha2 : I64 a2) (ha3 : I64 a3) (hn : I64 n) (h0 : 0 ≤ n) (w : World) :
    Calls Try.prog 21 #[.agg #[.int .i64 a1, .int .i64 a2, .int .i64 a3], .int .i64 n] w fun e w' =>
      e = .returned (.agg #[.int .i64 (fclamp a1 n), .int .i64 (fclamp a2 n), .int .i64 (fclamp a3 n)]) ∧ Below w.heap.size w w' := by
  go_enter Try.func21, Try.ntmps21
  go_wp2_with fail
  refine (eachClamp a1 a2 a3 a1 a2 a3 ha1 ha2 ha3 ha1 ha2 ha3 (w.heap.size + 1) n hn h0 _ (by simp) (by simp [go_sem])).mono ?_
  rintro e w1 ⟨rfl, bel⟩
  obtain ⟨hc, hf⟩ := bcell bel
  have hz : w.heap.size + 1 + 1 < w1.heap.size := by have := bel.size; simp at this; omega
  go_wp2
  obtain ⟨r0, r1, r2⟩ := three_new (W := w1) (b := w.heap.size + 1 + 1) (x := .int .i64 (fclamp a1 n)) (y := .int .i64 (fclamp a2 n)) (z := .int .i64 (fclamp a3 n)) (u0 := .int .i64 0) (u1 := .int .i64 0) (u2 := .int .i64 0)
    (by rw [hc _ _ (by simp)]; simp [go_sem]) (by rw [hc _ _ (by simp)]; simp [go_sem]) (by rw [hc _ _ (by simp)]; simp [go_sem])
  clear hc hf
  refine bodyPost_ret (v := .agg #[.int .i64 (fclamp a1 n), .int .i64 (fclamp a2 n), .int .i64 (fclamp a3 n)]) ?_ rfl ⟨rfl, ?_⟩
  · simp [results, Try.results21, go_sem, r0, r1, r2]
  · exact ((((((Below.refl _ _).alloc (Nat.le_refl _) _).alloc (by simp) _).alloc (by simp; omega) _).trans (bel.mono (by simp; omega))).setCell (by simp; omega) _).setCell (by simp; omega) _ |>.setCell (by simp; omega) _
theorem fixVecClampN (a1 a2 a3 n : Int) (ha1 : I64 a1) (ha2 : I64 a2) (ha3 : I64 a3) (h0 : n < 0) (w : World) :
    Calls Try.prog 21 #[.agg #[.int .i64 a1, .int .i64 a2, .int .i64 a3], .int .i64 n] w fun e w' =>
      e = .returned (.agg #[.int .i64 (fclamp a1 0), .int .i64 (fclamp a2 0), .int .i64 (fclamp a3 0)]) ∧ Below w.heap.size w w' := by
  go_enter Try.func21, Try.ntmps21
  go_wp2_with fail
  refine (eachClamp a1 a2 a3 a1 a2 a3 ha1 ha2 ha3 ha1 ha2 ha3 (w.heap.size + 1) 0 i64_0 (Int.le_refl 0) _ (by simp) (by simp [go_sem])).mono ?_
  rintro e w1 ⟨rfl, bel⟩
  obtain ⟨hc, hf⟩ := bcell bel
  have hz : w.heap.size + 1 + 1 < w1.heap.size := by have := bel.size; simp at this; omega
  go_wp2
  obtain ⟨r0, r1, r2⟩ := three_new (W := w1) (b := w.heap.size + 1 + 1) (x := .int .i64 (fclamp a1 0)) (y := .int .i64 (fclamp a2 0)) (z := .int .i64 (fclamp a3 0)) (u0 := .int .i64 0) (u1 := .int .i64 0) (u2 := .int .i64 0)
    (by rw [hc _ _ (by simp)]; simp [go_sem]) (by rw [hc _ _ (by simp)]; simp [go_sem]) (by rw [hc _ _ (by simp)]; simp [go_sem])
  clear hc hf
  refine bodyPost_ret (v := .agg #[.int .i64 (fclamp a1 0), .int .i64 (fclamp a2 0), .int .i64 (fclamp a3 0)]) ?_ rfl ⟨rfl, ?_⟩
  · simp [results, Try.results21, go_sem, r0, r1, r2]
  · exact ((((((Below.refl _ _).alloc (Nat.le_refl _) _).alloc (by simp) _).alloc (by simp; omega) _).trans (bel.mono (by simp; omega))).setCell (by simp; omega) _).setCell (by simp; omega) _ |>.setCell (by simp; omega) _
theorem fixVecClamp (a1 a2 a3 n : Int) (ha1 : I64 a1) (ha2 : I64 a2) (ha3 : I64 a3) (hn : I64 n) (w : World) :
    Calls Try.prog 21 #[.agg #[.int .i64 a1, .int .i64 a2, .int .i64 a3], .int .i64 n] w fun e w' =>
      e = .returned (.agg #[.int .i64 (fclamp a1 (max n 0)), .int .i64 (fclamp a2 (max n 0)), .int .i64 (fclamp a3 (max n 0))]) ∧ Below w.heap.size w w' := by
  by_cases h : n < 0
  · rw [show max n 0 = 0 from by omega]; exact fixVecClampN a1 a2 a3 n ha1 ha2 ha3 h w
  · rw [show max n 0 = n from by omega]; exact fixVecClampP a1 a2 a3 n ha1 ha2 ha3 hn (by omega) w
end Go.Proofs.Ythcmcjklhcfenaa
