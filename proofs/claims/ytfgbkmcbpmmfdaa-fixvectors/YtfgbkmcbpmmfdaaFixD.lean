/- Layer 1 (fix): each at Add and at Sub; Plus, Minus. -/
import Derived.Test.YtfgbkmcbpmmfdaaFixC
namespace Go.Proofs.Ytfgbkmcbpmmfdaa
open Go.RowKit
set_option linter.unusedVariables false
attribute [local go_sem ↓] Go.wp_at_zero Go.wp_at_succ

set_option maxHeartbeats 2000000 in
theorem eachAdd (a1 a2 a3 b1 b2 b3 : Int) (ha1 : I64 a1) (ha2 : I64 a2) (ha3 : I64 a3) (hb1 : I64 b1) (hb2 : I64 b2) (hb3 : I64 b3) (w : World) :
    Calls Try.prog 55 #[.agg #[.int .i64 a1, .int .i64 a2, .int .i64 a3], .agg #[.int .i64 b1, .int .i64 b2, .int .i64 b3], .func (.func 16) #[] #[]] w fun e w' =>
      e = .returned (.agg #[.int .i64 (sat (a1 + b1)), .int .i64 (sat (a2 + b2)), .int .i64 (sat (a3 + b3))]) ∧ Below w.heap.size w w' := by
  go_enter Try.func55, Try.ntmps55
  go_wp2
  go_region_held3 (fun w' => w.heap.size + 1 + 1 < w'.heap.size ∧ w'.cell? ⟨w.heap.size, 0, none⟩ = some (.int .i64 a1) ∧ w'.cell? ⟨w.heap.size, 1, none⟩ = some (.int .i64 a2) ∧ w'.cell? ⟨w.heap.size, 2, none⟩ = some (.int .i64 a3) ∧ w'.cell? ⟨w.heap.size + 1, 0, none⟩ = some (.int .i64 b1) ∧ w'.cell? ⟨w.heap.size + 1, 1, none⟩ = some (.int .i64 b2) ∧ w'.cell? ⟨w.heap.size + 1, 2, none⟩ = some (.int .i64 b3) ∧ w'.cell? ⟨w.heap.size + 1 + 1, 0, none⟩ = some (rd w' (w.heap.size + 1 + 1) 0) ∧ w'.cell? ⟨w.heap.size + 1 + 1, 1, none⟩ = some (rd w' (w.heap.size + 1 + 1) 1) ∧ w'.cell? ⟨w.heap.size + 1 + 1, 2, none⟩ = some (rd w' (w.heap.size + 1 + 1) 2) ∧ w'.frozen? ⟨w.heap.size + 1 + 1, 0, none⟩ = false ∧ w'.frozen? ⟨w.heap.size + 1 + 1, 1, none⟩ = false ∧ w'.frozen? ⟨w.heap.size + 1 + 1, 2, none⟩ = false ∧ Below w.heap.size w w')
    (first | assumption | exact startE _ | exact keepE (by assumption) (by assumption) | exact setE _ _ _ (by assumption))
    ((go_at_call 16; refine (addFn _ _ (by assumption) (by assumption) _).mono ?_; rintro e w1 ⟨rfl, bel1⟩))
  rename_i hH
  obtain ⟨r0, r1, r2⟩ := three_set hH.2.2.2.2.2.2.2.1 hH.2.2.2.2.2.2.2.2.1 hH.2.2.2.2.2.2.2.2.2.1
  have hB := hH.2.2.2.2.2.2.2.2.2.2.2.2.2
  clear hH
  go_wp2
  refine bodyPost_ret (v := .agg #[.int .i64 (sat (a1 + b1)), .int .i64 (sat (a2 + b2)), .int .i64 (sat (a3 + b3))]) ?_ rfl ⟨rfl, hB⟩
  simp [results, Try.results55, go_sem, r0, r1, r2]

set_option maxHeartbeats 2000000 in
theorem eachSub (a1 a2 a3 b1 b2 b3 : Int) (ha1 : I64 a1) (ha2 : I64 a2) (ha3 : I64 a3) (hb1 : I64 b1) (hb2 : I64 b2) (hb3 : I64 b3) (w : World) :
    Calls Try.prog 55 #[.agg #[.int .i64 a1, .int .i64 a2, .int .i64 a3], .agg #[.int .i64 b1, .int .i64 b2, .int .i64 b3], .func (.func 18) #[] #[]] w fun e w' =>
      e = .returned (.agg #[.int .i64 (sat (a1 - b1)), .int .i64 (sat (a2 - b2)), .int .i64 (sat (a3 - b3))]) ∧ Below w.heap.size w w' := by
  go_enter Try.func55, Try.ntmps55
  go_wp2
  go_region_held3 (fun w' => w.heap.size + 1 + 1 < w'.heap.size ∧ w'.cell? ⟨w.heap.size, 0, none⟩ = some (.int .i64 a1) ∧ w'.cell? ⟨w.heap.size, 1, none⟩ = some (.int .i64 a2) ∧ w'.cell? ⟨w.heap.size, 2, none⟩ = some (.int .i64 a3) ∧ w'.cell? ⟨w.heap.size + 1, 0, none⟩ = some (.int .i64 b1) ∧ w'.cell? ⟨w.heap.size + 1, 1, none⟩ = some (.int .i64 b2) ∧ w'.cell? ⟨w.heap.size + 1, 2, none⟩ = some (.int .i64 b3) ∧ w'.cell? ⟨w.heap.size + 1 + 1, 0, none⟩ = some (rd w' (w.heap.size + 1 + 1) 0) ∧ w'.cell? ⟨w.heap.size + 1 + 1, 1, none⟩ = some (rd w' (w.heap.size + 1 + 1) 1) ∧ w'.cell? ⟨w.heap.size + 1 + 1, 2, none⟩ = some (rd w' (w.heap.size + 1 + 1) 2) ∧ w'.frozen? ⟨w.heap.size + 1 + 1, 0, none⟩ = false ∧ w'.frozen? ⟨w.heap.size + 1 + 1, 1, none⟩ = false ∧ w'.frozen? ⟨w.heap.size + 1 + 1, 2, none⟩ = false ∧ Below w.heap.size w w')
    (first | assumption | exact startE _ | exact keepE (by assumption) (by assumption) | exact setE _ _ _ (by assumption))
    ((go_at_call 18; refine (subFn _ _ (by assumption) (by assumption) _).mono ?_; rintro e w1 ⟨rfl, bel1⟩))
  rename_i hH
  obtain ⟨r0, r1, r2⟩ := three_set hH.2.2.2.2.2.2.2.1 hH.2.2.2.2.2.2.2.2.1 hH.2.2.2.2.2.2.2.2.2.1
  have hB := hH.2.2.2.2.2.2.2.2.2.2.2.2.2
  clear hH
  go_wp2
  refine bodyPost_ret (v := .agg #[.int .i64 (sat (a1 - b1)), .int .i64 (sat (a2 - b2)), .int .i64 (sat (a3 - b3))]) ?_ rfl ⟨rfl, hB⟩
  simp [results, Try.results55, go_sem, r0, r1, r2]

theorem fixVecPlus (a1 a2 a3 b1 b2 b3 : Int) (ha1 : I64 a1) (ha2 : I64 a2) (ha3 : I64 a3) (hb1 : I64 b1) (hb2 : I64 b2) (hb3 : I64 b3) (w : World) :
    Calls Try.prog 28 #[.agg #[.int .i64 a1, .int .i64 a2, .int .i64 a3], .agg #[.int .i64 b1, .int .i64 b2, .int .i64 b3]] w fun e w' =>
      e = .returned (.agg #[.int .i64 (sat (a1 + b1)), .int .i64 (sat (a2 + b2)), .int .i64 (sat (a3 + b3))]) ∧ Below w.heap.size w w' := by
  go_enter Try.func28, Try.ntmps28
  go_wp2_with fail
  refine (eachAdd a1 a2 a3 b1 b2 b3 ha1 ha2 ha3 hb1 hb2 hb3 _).mono ?_
  rintro e w1 ⟨rfl, bel⟩
  obtain ⟨hc, hf⟩ := bcell bel
  have hz : w.heap.size + 1 + 1 < w1.heap.size := by have := bel.size; simp at this; omega
  go_wp2
  obtain ⟨r0, r1, r2⟩ := three_new (W := w1) (b := w.heap.size + 1 + 1) (x := .int .i64 (sat (a1 + b1))) (y := .int .i64 (sat (a2 + b2))) (z := .int .i64 (sat (a3 + b3))) (u0 := .int .i64 0) (u1 := .int .i64 0) (u2 := .int .i64 0)
    (by rw [hc _ _ (by simp)]; simp [go_sem]) (by rw [hc _ _ (by simp)]; simp [go_sem]) (by rw [hc _ _ (by simp)]; simp [go_sem])
  clear hc hf
  refine bodyPost_ret (v := .agg #[.int .i64 (sat (a1 + b1)), .int .i64 (sat (a2 + b2)), .int .i64 (sat (a3 + b3))]) ?_ rfl ⟨rfl, ?_⟩
  · simp [results, Try.results28, go_sem, r0, r1, r2]
  · exact ((((((Below.refl _ _).alloc (Nat.le_refl _) _).alloc (by simp) _).alloc (by simp; omega) _).trans (bel.mono (by simp; omega))).setCell (by simp; omega) _).setCell (by simp; omega) _ |>.setCell (by simp; omega) _

theorem fixVecMinus (a1 a2 a3 b1 b2 b3 : Int) (ha1 : I64 a1) (ha2 : I64 a2) (ha3 : I64 a3) (hb1 : I64 b1) (hb2 : I64 b2) (hb3 : I64 b3) (w : World) :
    Calls Try.prog 30 #[.agg #[.int .i64 a1, .int .i64 a2, .int .i64 a3], .agg #[.int .i64 b1, .int .i64 b2, .int .i64 b3]] w fun e w' =>
      e = .returned (.agg #[.int .i64 (sat (a1 - b1)), .int .i64 (sat (a2 - b2)), .int .i64 (sat (a3 - b3))]) ∧ Below w.heap.size w w' := by
  go_enter Try.func30, Try.ntmps30
  go_wp2_with fail
  refine (eachSub a1 a2 a3 b1 b2 b3 ha1 ha2 ha3 hb1 hb2 hb3 _).mono ?_
  rintro e w1 ⟨rfl, bel⟩
  obtain ⟨hc, hf⟩ := bcell bel
  have hz : w.heap.size + 1 + 1 < w1.heap.size := by have := bel.size; simp at this; omega
  go_wp2
  obtain ⟨r0, r1, r2⟩ := three_new (W := w1) (b := w.heap.size + 1 + 1) (x := .int .i64 (sat (a1 - b1))) (y := .int .i64 (sat (a2 - b2))) (z := .int .i64 (sat (a3 - b3))) (u0 := .int .i64 0) (u1 := .int .i64 0) (u2 := .int .i64 0)
    (by rw [hc _ _ (by simp)]; simp [go_sem]) (by rw [hc _ _ (by simp)]; simp [go_sem]) (by rw [hc _ _ (by simp)]; simp [go_sem])
  clear hc hf
  refine bodyPost_ret (v := .agg #[.int .i64 (sat (a1 - b1)), .int .i64 (sat (a2 - b2)), .int .i64 (sat (a3 - b3))]) ?_ rfl ⟨rfl, ?_⟩
  · simp [results, Try.results30, go_sem, r0, r1, r2]
  · exact ((((((Below.refl _ _).alloc (Nat.le_refl _) _).alloc (by simp) _).alloc (by simp; omega) _).trans (bel.mono (by simp; omega))).setCell (by simp; omega) _).setCell (by simp; omega) _ |>.setCell (by simp; omega) _

end Go.Proofs.Ytfgbkmcbpmmfdaa
