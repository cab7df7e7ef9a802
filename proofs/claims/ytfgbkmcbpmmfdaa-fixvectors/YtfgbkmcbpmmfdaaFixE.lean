/- Layer 1 (fix): each at Times and at Clamp; Times, Clamp. -/
import Derived.Test.YtfgbkmcbpmmfdaaFixC
namespace Go.Proofs.Ytfgbkmcbpmmfdaa
open Go.RowKit
set_option linter.unusedVariables false
attribute [local go_sem ↓] Go.wp_at_zero Go.wp_at_succ

set_option maxHeartbeats 2000000 in
theorem eachTimes (a1 a2 a3 b1 b2 b3 : Int) (ha1 : I64 a1) (ha2 : I64 a2) (ha3 : I64 a3) (hb1 : I64 b1) (hb2 : I64 b2) (hb3 : I64 b3) (c : Nat) (n : Int) (hn : I64 n) (w : World) (hc : c < w.heap.size) (hcell : w.cell? ⟨c, 0, none⟩ = some (.int .i64 n)) :
    Calls Try.prog 55 #[.agg #[.int .i64 a1, .int .i64 a2, .int .i64 a3], .agg #[.int .i64 b1, .int .i64 b2, .int .i64 b3], .func (.func 56) #[] #[.pointer (some ⟨c, 0, none⟩)]] w fun e w' =>
      e = .returned (.agg #[.int .i64 (fmul a1 n), .int .i64 (fmul a2 n), .int .i64 (fmul a3 n)]) ∧ Below w.heap.size w w' := by
  go_enter Try.func55, Try.ntmps55
  go_wp2
  go_region_held3 (fun w' => w.heap.size + 1 + 1 < w'.heap.size ∧ w'.cell? ⟨w.heap.size, 0, none⟩ = some (.int .i64 a1) ∧ w'.cell? ⟨w.heap.size, 1, none⟩ = some (.int .i64 a2) ∧ w'.cell? ⟨w.heap.size, 2, none⟩ = some (.int .i64 a3) ∧ w'.cell? ⟨w.heap.size + 1, 0, none⟩ = some (.int .i64 b1) ∧ w'.cell? ⟨w.heap.size + 1, 1, none⟩ = some (.int .i64 b2) ∧ w'.cell? ⟨w.heap.size + 1, 2, none⟩ = some (.int .i64 b3) ∧ w'.cell? ⟨w.heap.size + 1 + 1, 0, none⟩ = some (rd w' (w.heap.size + 1 + 1) 0) ∧ w'.cell? ⟨w.heap.size + 1 + 1, 1, none⟩ = some (rd w' (w.heap.size + 1 + 1) 1) ∧ w'.cell? ⟨w.heap.size + 1 + 1, 2, none⟩ = some (rd w' (w.heap.size + 1 + 1) 2) ∧ w'.frozen? ⟨w.heap.size + 1 + 1, 0, none⟩ = false ∧ w'.frozen? ⟨w.heap.size + 1 + 1, 1, none⟩ = false ∧ w'.frozen? ⟨w.heap.size + 1 + 1, 2, none⟩ = false ∧ w'.cell? ⟨c, 0, none⟩ = some (.int .i64 n) ∧ Below w.heap.size w w')
    (first | assumption | exact startEC hc _ hcell | exact keepEC hc (by assumption) (by assumption) | exact setEC hc _ _ _ (by assumption))
    ((go_at_call 56; refine (timesFn _ _ n c (by assumption) hn _ ?_).mono ?_; go_split_ands; assumption; rintro e w1 ⟨rfl, bel1⟩))
  rename_i hH
  obtain ⟨r0, r1, r2⟩ := three_set hH.2.2.2.2.2.2.2.1 hH.2.2.2.2.2.2.2.2.1 hH.2.2.2.2.2.2.2.2.2.1
  have hB := hH.2.2.2.2.2.2.2.2.2.2.2.2.2.2
  clear hH
  go_wp2
  refine bodyPost_ret (v := .agg #[.int .i64 (fmul a1 n), .int .i64 (fmul a2 n), .int .i64 (fmul a3 n)]) ?_ rfl ⟨rfl, hB⟩
  simp [results, Try.results55, go_sem, r0, r1, r2]

set_option maxHeartbeats 2000000 in
theorem eachClamp (a1 a2 a3 b1 b2 b3 : Int) (ha1 : I64 a1) (ha2 : I64 a2) (ha3 : I64 a3) (hb1 : I64 b1) (hb2 : I64 b2) (hb3 : I64 b3) (c : Nat) (n : Int) (hn : I64 n) (hne : 0 ≤ n) (w : World) (hc : c < w.heap.size) (hcell : w.cell? ⟨c, 0, none⟩ = some (.int .i64 n)) :
    Calls Try.prog 55 #[.agg #[.int .i64 a1, .int .i64 a2, .int .i64 a3], .agg #[.int .i64 b1, .int .i64 b2, .int .i64 b3], .func (.func 63) #[] #[.pointer (some ⟨c, 0, none⟩)]] w fun e w' =>
      e = .returned (.agg #[.int .i64 (fclamp a1 n), .int .i64 (fclamp a2 n), .int .i64 (fclamp a3 n)]) ∧ Below w.heap.size w w' := by
  go_enter Try.func55, Try.ntmps55
  go_wp2
  go_region_held3 (fun w' => w.heap.size + 1 + 1 < w'.heap.size ∧ w'.cell? ⟨w.heap.size, 0, none⟩ = some (.int .i64 a1) ∧ w'.cell? ⟨w.heap.size, 1, none⟩ = some (.int .i64 a2) ∧ w'.cell? ⟨w.heap.size, 2, none⟩ = some (.int .i64 a3) ∧ w'.cell? ⟨w.heap.size + 1, 0, none⟩ = some (.int .i64 b1) ∧ w'.cell? ⟨w.heap.size + 1, 1, none⟩ = some (.int .i64 b2) ∧ w'.cell? ⟨w.heap.size + 1, 2, none⟩ = some (.int .i64 b3) ∧ w'.cell? ⟨w.heap.size + 1 + 1, 0, none⟩ = some (rd w' (w.heap.size + 1 + 1) 0) ∧ w'.cell? ⟨w.heap.size + 1 + 1, 1, none⟩ = some (rd w' (w.heap.size + 1 + 1) 1) ∧ w'.cell? ⟨w.heap.size + 1 + 1, 2, none⟩ = some (rd w' (w.heap.size + 1 + 1) 2) ∧ w'.frozen? ⟨w.heap.size + 1 + 1, 0, none⟩ = false ∧ w'.frozen? ⟨w.heap.size + 1 + 1, 1, none⟩ = false ∧ w'.frozen? ⟨w.heap.size + 1 + 1, 2, none⟩ = false ∧ w'.cell? ⟨c, 0, none⟩ = some (.int .i64 n) ∧ Below w.heap.size w w')
    (first | assumption | exact startEC hc _ hcell | exact keepEC hc (by assumption) (by assumption) | exact setEC hc _ _ _ (by assumption))
    ((go_at_call 63; refine (clampFn _ _ n c hn hne _ ?_).mono ?_; go_split_ands; assumption; rintro e w1 ⟨rfl, bel1⟩))
  rename_i hH
  obtain ⟨r0, r1, r2⟩ := three_set hH.2.2.2.2.2.2.2.1 hH.2.2.2.2.2.2.2.2.1 hH.2.2.2.2.2.2.2.2.2.1
  have hB := hH.2.2.2.2.2.2.2.2.2.2.2.2.2.2
  clear hH
  go_wp2
  refine bodyPost_ret (v := .agg #[.int .i64 (fclamp a1 n), .int .i64 (fclamp a2 n), .int .i64 (fclamp a3 n)]) ?_ rfl ⟨rfl, hB⟩
  simp [results, Try.results55, go_sem, r0, r1, r2]

theorem fixVecTimes (a1 a2 a3 n : Int) (ha1 : I64 a1) (ha2 : I64 a2) (ha3 : I64 a3) (hn : I64 n) (w : World) :
    Calls Try.prog 32 #[.agg #[.int .i64 a1, .int .i64 a2, .int .i64 a3], .int .i64 n] w fun e w' =>
      e = .returned (.agg #[.int .i64 (fmul a1 n), .int .i64 (fmul a2 n), .int .i64 (fmul a3 n)]) ∧ Below w.heap.size w w' := by
  go_enter Try.func32, Try.ntmps32
  go_wp2_with fail
  refine (eachTimes a1 a2 a3 a1 a2 a3 ha1 ha2 ha3 ha1 ha2 ha3 (w.heap.size + 1) n hn _ (by simp) (by simp [go_sem])).mono ?_
  rintro e w1 ⟨rfl, bel⟩
  obtain ⟨hc, hf⟩ := bcell bel
  have hz : w.heap.size + 1 + 1 < w1.heap.size := by have := bel.size; simp at this; omega
  go_wp2
  obtain ⟨r0, r1, r2⟩ := three_new (W := w1) (b := w.heap.size + 1 + 1) (x := .int .i64 (fmul a1 n)) (y := .int .i64 (fmul a2 n)) (z := .int .i64 (fmul a3 n)) (u0 := .int .i64 0) (u1 := .int .i64 0) (u2 := .int .i64 0)
    (by rw [hc _ _ (by simp)]; simp [go_sem]) (by rw [hc _ _ (by simp)]; simp [go_sem]) (by rw [hc _ _ (by simp)]; simp [go_sem])
  clear hc hf
  refine bodyPost_ret (v := .agg #[.int .i64 (fmul a1 n), .int .i64 (fmul a2 n), .int .i64 (fmul a3 n)]) ?_ rfl ⟨rfl, ?_⟩
  · simp [results, Try.results32, go_sem, r0, r1, r2]
  · exact ((((((Below.refl _ _).alloc (Nat.le_refl _) _).alloc (by simp) _).alloc (by simp; omega) _).trans (bel.mono (by simp; omega))).setCell (by simp; omega) _).setCell (by simp; omega) _ |>.setCell (by simp; omega) _

theorem fixVecClampP (a1 a2 a3 n : Int) (ha1 : I64 a1) (ha2 : I64 a2) (ha3 : I64 a3) (hn : I64 n) (h0 : 0 ≤ n) (w : World) :
    Calls Try.prog 38 #[.agg #[.int .i64 a1, .int .i64 a2, .int .i64 a3], .int .i64 n] w fun e w' =>
      e = .returned (.agg #[.int .i64 (fclamp a1 n), .int .i64 (fclamp a2 n), .int .i64 (fclamp a3 n)]) ∧ Below w.heap.size w w' := by
  go_enter Try.func38, Try.ntmps38
  go_wp2_with fail
  refine (eachClamp a1 a2 a3 a1 a2 a3 ha1 ha2 ha3 ha1 ha2 ha3 (w.heap.size + 1) n hn h0 _ (by simp) (by simp [go_sem])).mono ?_
  rintro e w1 ⟨rfl, bel⟩
  obtain ⟨hc, hf⟩ := bcell bel
  have hz : w.heap.size + 1 + 1 < w1.heap.size := by have := bel.size; simp at this; omega
  go_wp2
  obtain ⟨r0, r1, r2⟩ := three_new (W := w1) (b := w.heap.size + 1 + 1) (x := .int .i64 (fclamp a1 n)) (y := .int .i64 (fclamp a2 n)) (z := .int .i64 (fclamp a3 n)) (u0 := .int .i64 0) (u1 := .int .i64 0) (u2 := .int .i64 0)
    (by rw [hc _ _ (by simp)]; simp [go_sem]) (by rw [hc _ _ (by simp)]; simp [go_sem]) (by rw [hc _ _ (by simp)]; simp [go_sem])
  clear hc hf
  refine bodyPost_ret (v := .agg #[.int .i64 (fclamp a1 n), .int .i64 (fclamp a2 n), .int .i64 (fclamp a3 n)]) ?_ rfl ⟨rfl, ?_⟩
  · simp [results, Try.results38, go_sem, r0, r1, r2]
  · exact ((((((Below.refl _ _).alloc (Nat.le_refl _) _).alloc (by simp) _).alloc (by simp; omega) _).trans (bel.mono (by simp; omega))).setCell (by simp; omega) _).setCell (by simp; omega) _ |>.setCell (by simp; omega) _

theorem fixVecClampN (a1 a2 a3 n : Int) (ha1 : I64 a1) (ha2 : I64 a2) (ha3 : I64 a3) (h0 : n < 0) (w : World) :
    Calls Try.prog 38 #[.agg #[.int .i64 a1, .int .i64 a2, .int .i64 a3], .int .i64 n] w fun e w' =>
      e = .returned (.agg #[.int .i64 (fclamp a1 0), .int .i64 (fclamp a2 0), .int .i64 (fclamp a3 0)]) ∧ Below w.heap.size w w' := by
  go_enter Try.func38, Try.ntmps38
  go_wp2_with fail
  refine (eachClamp a1 a2 a3 a1 a2 a3 ha1 ha2 ha3 ha1 ha2 ha3 (w.heap.size + 1) 0 i64_0 (Int.le_refl 0) _ (by simp) (by simp [go_sem])).mono ?_
  rintro e w1 ⟨rfl, bel⟩
  obtain ⟨hc, hf⟩ := bcell bel
  have hz : w.heap.size + 1 + 1 < w1.heap.size := by have := bel.size; simp at this; omega
  go_wp2
  obtain ⟨r0, r1, r2⟩ := three_new (W := w1) (b := w.heap.size + 1 + 1) (x := .int .i64 (fclamp a1 0)) (y := .int .i64 (fclamp a2 0)) (z := .int .i64 (fclamp a3 0)) (u0 := .int .i64 0) (u1 := .int .i64 0) (u2 := .int .i64 0)
    (by rw [hc _ _ (by simp)]; simp [go_sem]) (by rw [hc _ _ (by simp)]; simp [go_sem]) (by rw [hc _ _ (by simp)]; simp [go_sem])
  clear hc hf
  refine bodyPost_ret (v := .agg #[.int .i64 (fclamp a1 0), .int .i64 (fclamp a2 0), .int .i64 (fclamp a3 0)]) ?_ rfl ⟨rfl, ?_⟩
  · simp [results, Try.results38, go_sem, r0, r1, r2]
  · exact ((((((Below.refl _ _).alloc (Nat.le_refl _) _).alloc (by simp) _).alloc (by simp; omega) _).trans (bel.mono (by simp; omega))).setCell (by simp; omega) _).setCell (by simp; omega) _ |>.setCell (by simp; omega) _

theorem fixVecClamp (a1 a2 a3 n : Int) (ha1 : I64 a1) (ha2 : I64 a2) (ha3 : I64 a3) (hn : I64 n) (w : World) :
    Calls Try.prog 38 #[.agg #[.int .i64 a1, .int .i64 a2, .int .i64 a3], .int .i64 n] w fun e w' =>
      e = .returned (.agg #[.int .i64 (fclamp a1 (max n 0)), .int .i64 (fclamp a2 (max n 0)), .int .i64 (fclamp a3 (max n 0))]) ∧ Below w.heap.size w w' := by
  by_cases h : n < 0
  · rw [show max n 0 = 0 from by omega]; exact fixVecClampN a1 a2 a3 n ha1 ha2 ha3 h w
  · rw [show max n 0 = n from by omega]; exact fixVecClampP a1 a2 a3 n ha1 ha2 ha3 hn (by omega) w

end Go.Proofs.Ytfgbkmcbpmmfdaa
