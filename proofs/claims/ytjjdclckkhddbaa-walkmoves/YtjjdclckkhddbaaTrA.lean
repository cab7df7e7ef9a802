/- Layer 10 (trace): the contracts of Free, the program's and the document's own. -/
import Derived.Test.YtjjdclckkhddbaaTrM
import Derived.Test.YtjjdclckkhddbaaGrP
import Derived.Test.YtjjdclckkhddbaaTsM
namespace Go.Proofs.Ytjjdclckkhddbaa
open Go.RowKit
set_option linter.unusedVariables false
set_option linter.unusedSimpArgs false
attribute [local go_sem ↓] Go.wp_at_zero Go.wp_at_succ

theorem keepS {w V V1 : World} {B0 B1 B2 : Nat} {W D H x y z : Int} {mp : Option Addr} {mn mc : Nat} {sp : Option Addr} {sn sc : Nat} (h0 : B0 < B2) (h1 : B1 < B2) (hb : Below V.heap.size V V1) (h : B2 < V.heap.size ∧ V.cell? ⟨B0, 0, none⟩ = some (.int .i64 W) ∧ V.cell? ⟨B0, 1, none⟩ = some (.int .i64 D) ∧ V.cell? ⟨B0, 2, none⟩ = some (.int .i64 H) ∧ V.cell? ⟨B0, 3, none⟩ = some (.slice mp mn mc) ∧ V.cell? ⟨B0, 4, none⟩ = some (.slice sp sn sc) ∧ V.cell? ⟨B1, 0, none⟩ = some (.int .i64 x) ∧ V.cell? ⟨B1, 1, none⟩ = some (.int .i64 y) ∧ V.cell? ⟨B1, 2, none⟩ = some (.int .i64 z) ∧ V.cell? ⟨B2, 0, none⟩ = some (.int .i64 26214) ∧ V.cell? ⟨B2, 1, none⟩ = some (.int .i64 26214) ∧ V.cell? ⟨B2, 2, none⟩ = some (.int .i64 58982) ∧ Below w.heap.size w V) : B2 < V1.heap.size ∧ V1.cell? ⟨B0, 0, none⟩ = some (.int .i64 W) ∧ V1.cell? ⟨B0, 1, none⟩ = some (.int .i64 D) ∧ V1.cell? ⟨B0, 2, none⟩ = some (.int .i64 H) ∧ V1.cell? ⟨B0, 3, none⟩ = some (.slice mp mn mc) ∧ V1.cell? ⟨B0, 4, none⟩ = some (.slice sp sn sc) ∧ V1.cell? ⟨B1, 0, none⟩ = some (.int .i64 x) ∧ V1.cell? ⟨B1, 1, none⟩ = some (.int .i64 y) ∧ V1.cell? ⟨B1, 2, none⟩ = some (.int .i64 z) ∧ V1.cell? ⟨B2, 0, none⟩ = some (.int .i64 26214) ∧ V1.cell? ⟨B2, 1, none⟩ = some (.int .i64 26214) ∧ V1.cell? ⟨B2, 2, none⟩ = some (.int .i64 58982) ∧ Below w.heap.size w V1 := by
  obtain ⟨hs, m0, m1, m2, m3, m4, a0, a1, a2, r0, r1, r2, hB⟩ := h
  exact ⟨Nat.lt_of_lt_of_le hs hb.size, keepCell hb (by omega) m0, keepCell hb (by omega) m1, keepCell hb (by omega) m2, keepCell hb (by omega) m3, keepCell hb (by omega) m4, keepCell hb (by omega) a0, keepCell hb (by omega) a1, keepCell hb (by omega) a2, keepCell hb (by omega) r0, keepCell hb (by omega) r1, keepCell hb (by omega) r2, btrans hB hb⟩

set_option maxHeartbeats 2000000 in
theorem traceFree (W D H : Int) (mp : Option Addr) (mn mc : Nat) (mf : Nat → Bool) (sp : Option Addr) (sn sc : Nat) (R : Int → Int → Int → Bool) (hR : ∀ x y z, R x y z = true ↔ (mpOf W D H mn mf).Room x y z) (x y z : Int) (ix : I64 x) (iy : I64 y) (iz : I64 z) (w : World) (hm : Arg w mp mn mc fun i => .bool (mf i)) :
    Calls Try.prog 22 #[.agg #[.int .i64 W, .int .i64 D, .int .i64 H, .slice mp mn mc, .slice sp sn sc], .agg #[.int .i64 x, .int .i64 y, .int .i64 z]] w fun e w' => e = .returned (.bool (R x y z)) ∧ Below w.heap.size w w' := by
  have HMA := hid hm
  have hsr := hR x y z
  obtain ⟨s, hs⟩ : ∃ s, R x y z = s := ⟨_, rfl⟩
  rw [hs] at hsr ⊢
  have hcl : ∀ V, Below w.heap.size w V → _ := fun V hV => gridClear W D H mp mn mc mf sp sn sc _ _ _ _ _ _ (sat_i64 (x - 26214)) (sat_i64 (y - 26214)) (sat_i64 (z - 58982)) (sat_i64 (x + 26214)) (sat_i64 (y + 26214)) (sat_i64 (z + 58982)) V (HMA.out.keep hV) s hsr
  have HCL := hid hcl
  clear hcl hsr hs hm hR
  go_enter Try.func22, Try.ntmps22
  go_wp2
  obtain ⟨W3, hW3⟩ : ∃ V, ((w.alloc (.cells #[.int .i64 W, .int .i64 D, .int .i64 H, .slice mp mn mc, .slice sp sn sc] 25)).alloc (.cells #[.int .i64 x, .int .i64 y, .int .i64 z] 27)).alloc (.cells #[.int .i64 26214, .int .i64 26214, .int .i64 58982] 27) = V := ⟨_, rfl⟩
  have hst : w.heap.size + 1 + 1 < W3.drew.heap.size ∧ W3.drew.cell? ⟨w.heap.size, 0, none⟩ = some (.int .i64 W) ∧ W3.drew.cell? ⟨w.heap.size, 1, none⟩ = some (.int .i64 D) ∧ W3.drew.cell? ⟨w.heap.size, 2, none⟩ = some (.int .i64 H) ∧ W3.drew.cell? ⟨w.heap.size, 3, none⟩ = some (.slice mp mn mc) ∧ W3.drew.cell? ⟨w.heap.size, 4, none⟩ = some (.slice sp sn sc) ∧ W3.drew.cell? ⟨w.heap.size + 1, 0, none⟩ = some (.int .i64 x) ∧ W3.drew.cell? ⟨w.heap.size + 1, 1, none⟩ = some (.int .i64 y) ∧ W3.drew.cell? ⟨w.heap.size + 1, 2, none⟩ = some (.int .i64 z) ∧ W3.drew.cell? ⟨w.heap.size + 1 + 1, 0, none⟩ = some (.int .i64 26214) ∧ W3.drew.cell? ⟨w.heap.size + 1 + 1, 1, none⟩ = some (.int .i64 26214) ∧ W3.drew.cell? ⟨w.heap.size + 1 + 1, 2, none⟩ = some (.int .i64 58982) ∧ Below w.heap.size w W3.drew := by
    subst hW3
    have O0 := ((MapAt.new w W D H (.slice mp mn mc) (.slice sp sn sc) 25).alloc (.cells #[.int .i64 x, .int .i64 y, .int .i64 z] 27)).alloc (.cells #[.int .i64 26214, .int .i64 26214, .int .i64 58982] 27)
    obtain ⟨_, m0, m1, m2, m3, m4⟩ := O0
    exact ⟨by simp, m0, m1, m2, m3, m4, by simp [go_sem], by simp [go_sem], by simp [go_sem], by simp [go_sem], by simp [go_sem], by simp [go_sem], ((((Below.refl _ _).alloc (Nat.le_refl _) _).alloc (by simp) _).alloc (by simp; omega) _).drew⟩
  simp only [hW3]
  have hdl : ∀ Q : World, (w.heap.size + 1 + 1 < Q.heap.size ∧ Q.cell? ⟨w.heap.size, 0, none⟩ = some (.int .i64 W) ∧ Q.cell? ⟨w.heap.size, 1, none⟩ = some (.int .i64 D) ∧ Q.cell? ⟨w.heap.size, 2, none⟩ = some (.int .i64 H) ∧ Q.cell? ⟨w.heap.size, 3, none⟩ = some (.slice mp mn mc) ∧ Q.cell? ⟨w.heap.size, 4, none⟩ = some (.slice sp sn sc) ∧ Q.cell? ⟨w.heap.size + 1, 0, none⟩ = some (.int .i64 x) ∧ Q.cell? ⟨w.heap.size + 1, 1, none⟩ = some (.int .i64 y) ∧ Q.cell? ⟨w.heap.size + 1, 2, none⟩ = some (.int .i64 z) ∧ Q.cell? ⟨w.heap.size + 1 + 1, 0, none⟩ = some (.int .i64 26214) ∧ Q.cell? ⟨w.heap.size + 1 + 1, 1, none⟩ = some (.int .i64 26214) ∧ Q.cell? ⟨w.heap.size + 1 + 1, 2, none⟩ = some (.int .i64 58982) ∧ Below w.heap.size w Q) → Below w.heap.size w Q := fun Q h => h.2.2.2.2.2.2.2.2.2.2.2.2
  go_region_held3 (fun Q => w.heap.size + 1 + 1 < Q.heap.size ∧ Q.cell? ⟨w.heap.size, 0, none⟩ = some (.int .i64 W) ∧ Q.cell? ⟨w.heap.size, 1, none⟩ = some (.int .i64 D) ∧ Q.cell? ⟨w.heap.size, 2, none⟩ = some (.int .i64 H) ∧ Q.cell? ⟨w.heap.size, 3, none⟩ = some (.slice mp mn mc) ∧ Q.cell? ⟨w.heap.size, 4, none⟩ = some (.slice sp sn sc) ∧ Q.cell? ⟨w.heap.size + 1, 0, none⟩ = some (.int .i64 x) ∧ Q.cell? ⟨w.heap.size + 1, 1, none⟩ = some (.int .i64 y) ∧ Q.cell? ⟨w.heap.size + 1, 2, none⟩ = some (.int .i64 z) ∧ Q.cell? ⟨w.heap.size + 1 + 1, 0, none⟩ = some (.int .i64 26214) ∧ Q.cell? ⟨w.heap.size + 1 + 1, 1, none⟩ = some (.int .i64 26214) ∧ Q.cell? ⟨w.heap.size + 1 + 1, 2, none⟩ = some (.int .i64 58982) ∧ Below w.heap.size w Q)
    (first | assumption | exact keepS (by omega) (by omega) (by assumption) (by assumption))
    (first
      | (go_at_call 32; refine (fixVecMinus x y z 26214 26214 58982 ix iy iz ⟨by omega, by omega⟩ ⟨by omega, by omega⟩ ⟨by omega, by omega⟩ _).mono ?_; rintro e V1 ⟨rfl, bel1⟩)
      | (go_at_call 33; refine (fixVecPlus x y z 26214 26214 58982 ix iy iz ⟨by omega, by omega⟩ ⟨by omega, by omega⟩ ⟨by omega, by omega⟩ _).mono ?_; rintro e V1 ⟨rfl, bel1⟩)
      | (go_at_call 31; refine (HCL.out _ (hdl _ (by assumption))).mono ?_; rintro e V1 ⟨rfl, bel1⟩))
  rename_i hH
  have hB4 := hdl _ hH
  clear hH hst hdl HCL hW3
  go_wp2
  go_ret
  exact ⟨rfl, hB4⟩

set_option maxHeartbeats 2000000 in
theorem refFree (W D H : Int) (mp : Option Addr) (mn mc : Nat) (mf : Nat → Bool) (sp : Option Addr) (sn sc : Nat) (R : Int → Int → Int → Bool) (hR : ∀ x y z, R x y z = true ↔ (mpOf W D H mn mf).Room x y z) (x y z : Int) (ix : I64 x) (iy : I64 y) (iz : I64 z) (w : World) (hm : Arg w mp mn mc fun i => .bool (mf i)) :
    Calls Try.prog 23 #[.agg #[.int .i64 W, .int .i64 D, .int .i64 H, .slice mp mn mc, .slice sp sn sc], .agg #[.int .i64 x, .int .i64 y, .int .i64 z]] w fun e w' => e = .returned (.bool (R x y z)) ∧ Below w.heap.size w w' := by
  have HMA := hid hm
  have hsr := hR x y z
  obtain ⟨s, hs⟩ : ∃ s, R x y z = s := ⟨_, rfl⟩
  rw [hs] at hsr ⊢
  have hcl : ∀ V, Below w.heap.size w V → _ := fun V hV => refClear W D H mp mn mc mf sp sn sc _ _ _ _ _ _ (sat_i64 (x - 26214)) (sat_i64 (y - 26214)) (sat_i64 (z - 58982)) (sat_i64 (x + 26214)) (sat_i64 (y + 26214)) (sat_i64 (z + 58982)) V (HMA.out.keep hV) s hsr
  have HCL := hid hcl
  clear hcl hsr hs hm hR
  go_enter Try.func23, Try.ntmps23
  go_wp2
  obtain ⟨W3, hW3⟩ : ∃ V, ((w.alloc (.cells #[.int .i64 W, .int .i64 D, .int .i64 H, .slice mp mn mc, .slice sp sn sc] 25)).alloc (.cells #[.int .i64 x, .int .i64 y, .int .i64 z] 27)).alloc (.cells #[.int .i64 26214, .int .i64 26214, .int .i64 58982] 27) = V := ⟨_, rfl⟩
  have hst : w.heap.size + 1 + 1 < W3.drew.heap.size ∧ W3.drew.cell? ⟨w.heap.size, 0, none⟩ = some (.int .i64 W) ∧ W3.drew.cell? ⟨w.heap.size, 1, none⟩ = some (.int .i64 D) ∧ W3.drew.cell? ⟨w.heap.size, 2, none⟩ = some (.int .i64 H) ∧ W3.drew.cell? ⟨w.heap.size, 3, none⟩ = some (.slice mp mn mc) ∧ W3.drew.cell? ⟨w.heap.size, 4, none⟩ = some (.slice sp sn sc) ∧ W3.drew.cell? ⟨w.heap.size + 1, 0, none⟩ = some (.int .i64 x) ∧ W3.drew.cell? ⟨w.heap.size + 1, 1, none⟩ = some (.int .i64 y) ∧ W3.drew.cell? ⟨w.heap.size + 1, 2, none⟩ = some (.int .i64 z) ∧ W3.drew.cell? ⟨w.heap.size + 1 + 1, 0, none⟩ = some (.int .i64 26214) ∧ W3.drew.cell? ⟨w.heap.size + 1 + 1, 1, none⟩ = some (.int .i64 26214) ∧ W3.drew.cell? ⟨w.heap.size + 1 + 1, 2, none⟩ = some (.int .i64 58982) ∧ Below w.heap.size w W3.drew := by
    subst hW3
    have O0 := ((MapAt.new w W D H (.slice mp mn mc) (.slice sp sn sc) 25).alloc (.cells #[.int .i64 x, .int .i64 y, .int .i64 z] 27)).alloc (.cells #[.int .i64 26214, .int .i64 26214, .int .i64 58982] 27)
    obtain ⟨_, m0, m1, m2, m3, m4⟩ := O0
    exact ⟨by simp, m0, m1, m2, m3, m4, by simp [go_sem], by simp [go_sem], by simp [go_sem], by simp [go_sem], by simp [go_sem], by simp [go_sem], ((((Below.refl _ _).alloc (Nat.le_refl _) _).alloc (by simp) _).alloc (by simp; omega) _).drew⟩
  simp only [hW3]
  have hdl : ∀ Q : World, (w.heap.size + 1 + 1 < Q.heap.size ∧ Q.cell? ⟨w.heap.size, 0, none⟩ = some (.int .i64 W) ∧ Q.cell? ⟨w.heap.size, 1, none⟩ = some (.int .i64 D) ∧ Q.cell? ⟨w.heap.size, 2, none⟩ = some (.int .i64 H) ∧ Q.cell? ⟨w.heap.size, 3, none⟩ = some (.slice mp mn mc) ∧ Q.cell? ⟨w.heap.size, 4, none⟩ = some (.slice sp sn sc) ∧ Q.cell? ⟨w.heap.size + 1, 0, none⟩ = some (.int .i64 x) ∧ Q.cell? ⟨w.heap.size + 1, 1, none⟩ = some (.int .i64 y) ∧ Q.cell? ⟨w.heap.size + 1, 2, none⟩ = some (.int .i64 z) ∧ Q.cell? ⟨w.heap.size + 1 + 1, 0, none⟩ = some (.int .i64 26214) ∧ Q.cell? ⟨w.heap.size + 1 + 1, 1, none⟩ = some (.int .i64 26214) ∧ Q.cell? ⟨w.heap.size + 1 + 1, 2, none⟩ = some (.int .i64 58982) ∧ Below w.heap.size w Q) → Below w.heap.size w Q := fun Q h => h.2.2.2.2.2.2.2.2.2.2.2.2
  go_region_held3 (fun Q => w.heap.size + 1 + 1 < Q.heap.size ∧ Q.cell? ⟨w.heap.size, 0, none⟩ = some (.int .i64 W) ∧ Q.cell? ⟨w.heap.size, 1, none⟩ = some (.int .i64 D) ∧ Q.cell? ⟨w.heap.size, 2, none⟩ = some (.int .i64 H) ∧ Q.cell? ⟨w.heap.size, 3, none⟩ = some (.slice mp mn mc) ∧ Q.cell? ⟨w.heap.size, 4, none⟩ = some (.slice sp sn sc) ∧ Q.cell? ⟨w.heap.size + 1, 0, none⟩ = some (.int .i64 x) ∧ Q.cell? ⟨w.heap.size + 1, 1, none⟩ = some (.int .i64 y) ∧ Q.cell? ⟨w.heap.size + 1, 2, none⟩ = some (.int .i64 z) ∧ Q.cell? ⟨w.heap.size + 1 + 1, 0, none⟩ = some (.int .i64 26214) ∧ Q.cell? ⟨w.heap.size + 1 + 1, 1, none⟩ = some (.int .i64 26214) ∧ Q.cell? ⟨w.heap.size + 1 + 1, 2, none⟩ = some (.int .i64 58982) ∧ Below w.heap.size w Q)
    (first | assumption | exact keepS (by omega) (by omega) (by assumption) (by assumption))
    (first
      | (go_at_call 35; refine (refVecMinus x y z 26214 26214 58982 ix iy iz ⟨by omega, by omega⟩ ⟨by omega, by omega⟩ ⟨by omega, by omega⟩ _).mono ?_; rintro e V1 ⟨rfl, bel1⟩)
      | (go_at_call 36; refine (refVecPlus x y z 26214 26214 58982 ix iy iz ⟨by omega, by omega⟩ ⟨by omega, by omega⟩ ⟨by omega, by omega⟩ _).mono ?_; rintro e V1 ⟨rfl, bel1⟩)
      | (go_at_call 34; refine (HCL.out _ (hdl _ (by assumption))).mono ?_; rintro e V1 ⟨rfl, bel1⟩))
  rename_i hH
  have hB4 := hdl _ hH
  clear hH hst hdl HCL hW3
  go_wp2
  go_ret
  exact ⟨rfl, hB4⟩
end Go.Proofs.Ytjjdclckkhddbaa
