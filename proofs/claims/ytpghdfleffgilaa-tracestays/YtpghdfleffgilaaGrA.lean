/- Layer 9 (grid): the contracts of cell, At, within, rises, goes, edge, long, along, Compare, against. -/
import Derived.Test.YtpghdfleffgilaaGsF
import Derived.Test.YtpghdfleffgilaaBtA
import Derived.Test.YtpghdfleffgilaaGrN
import Derived.Deep.QuietTactic
import Derived.BigQuiet
namespace Go.Proofs.Ytpghdfleffgilaa
open Go.RowKit
set_option linter.unusedVariables false
set_option linter.unusedSimpArgs false
attribute [local go_sem ↓] Go.wp_at_zero Go.wp_at_succ

theorem gridCell (n : Int) (hn : I64 n) (w : World) :
    Calls Try.prog 53 #[.int .i64 n] w fun e w' => e = .returned (.int .i64 (n / 65536)) ∧ w' = w := by
  have h0 := hn.lo; have h1 := hn.hi
  go_enter Try.func53, Try.ntmps53
  go_wp2
  go_ret
  exact ⟨ret_int (by simp), rfl⟩
theorem gridWithin (n s : Int) (w : World) :
    Calls Try.prog 62 #[.int .i64 n, .int .i64 s] w fun e w' => e = .returned (.bool (decide (0 ≤ n ∧ n < s))) ∧ w' = w := by
  by_cases h : 0 ≤ n
  · go_enter Try.func62, Try.ntmps62
    go_wp2
    go_ret
    exact ⟨ret_bool (by simp [h]), rfl⟩
  · go_enter Try.func62, Try.ntmps62
    go_wp2
    go_ret
    exact ⟨ret_bool (by simp; omega), rfl⟩
theorem axisRises (f t c : Int) (w : World) :
    Calls Try.prog 34 #[.agg #[.int .i64 f, .int .i64 t, .int .i64 c]] w fun e w' => e = .returned (.bool (decide (f < t))) ∧ Below w.heap.size w w' := by
  go_enter Try.func34, Try.ntmps34
  go_wp2
  go_ret
  exact ⟨rfl, (Below.refl _ _).alloc (Nat.le_refl _) _⟩
theorem gridAt (x y z : Int) (hx : I64 x) (hy : I64 y) (hz : I64 z) (w : World) :
    Calls Try.prog 45 #[.agg #[.int .i64 x, .int .i64 y, .int .i64 z]] w fun e w' => e = .returned (.tuple #[.int .i64 (x / 65536), .int .i64 (y / 65536), .int .i64 (z / 65536)]) ∧ Below w.heap.size w w' := by
  go_enter Try.func45, Try.ntmps45
  go_wp2
  go_quiet (first | (go_at_call 53; exact Calls.quiet_of_same (gridCell _ (by assumption) _)))
  go_wp2
  refine bodyPost_ret (v := .tuple #[.int .i64 (x / 65536), .int .i64 (y / 65536), .int .i64 (z / 65536)]) ?_ rfl ⟨rfl, ((Below.refl _ _).alloc (Nat.le_refl _) _).trans (below_drewN _ _)⟩
  simp [results, Try.results45, go_sem]
/-- A box of three cells stays. -/
theorem box3 {w w1 : World} {a b c : Int} {t : TypeId} (hb : Below (w.alloc (.cells #[.int .i64 a, .int .i64 b, .int .i64 c] t)).heap.size (w.alloc (.cells #[.int .i64 a, .int .i64 b, .int .i64 c] t)) w1) :
    w1.cell? ⟨w.heap.size, 0, none⟩ = some (.int .i64 a) ∧ w1.cell? ⟨w.heap.size, 1, none⟩ = some (.int .i64 b) ∧ w1.cell? ⟨w.heap.size, 2, none⟩ = some (.int .i64 c) :=
  ⟨keepCell hb (by simp) (by simp [go_sem]), keepCell hb (by simp) (by simp [go_sem]), keepCell hb (by simp) (by simp [go_sem])⟩
theorem axisEdge (f t c : Int) (hf : I64 f) (ht : I64 t) (h1 : 0 ≤ f) (h2 : f < 4294967296) (h3 : 0 ≤ c) (h4 : c < 65536) (w : World) :
    Calls Try.prog 55 #[.agg #[.int .i64 f, .int .i64 t, .int .i64 c]] w fun e w' => e = .returned (.int .i64 (edgeI f t c)) ∧ Below w.heap.size w w' := by
  by_cases h : f < t
  · have e1 : edgeI f t c = (c + 1) * 65536 - f := by unfold edgeI; rw [if_pos h]
    rw [e1]
    clear e1
    go_enter Try.func55, Try.ntmps55
    go_wp2_with fail
    refine (axisRises f t c _).mono ?_; rintro e w1 ⟨rfl, b1⟩
    obtain ⟨c0, c1, c2⟩ := box3 b1
    go_wp2
    go_ret
    exact ⟨rfl, ((Below.refl _ _).alloc (Nat.le_refl _) _).trans (b1.mono (by simp))⟩
  · have e1 : edgeI f t c = f - c * 65536 := by unfold edgeI; rw [if_neg h]
    rw [e1]
    clear e1
    go_enter Try.func55, Try.ntmps55
    go_wp2_with fail
    refine (axisRises f t c _).mono ?_; rintro e w1 ⟨rfl, b1⟩
    obtain ⟨c0, c1, c2⟩ := box3 b1
    go_wp2
    go_ret
    exact ⟨rfl, ((Below.refl _ _).alloc (Nat.le_refl _) _).trans (b1.mono (by simp))⟩
theorem axisLong (f t c : Int) (hf : I64 f) (ht : I64 t) (h1 : 0 ≤ f) (h2 : f < 4294967296) (h3 : 0 ≤ t) (h4 : t < 4294967296) (w : World) :
    Calls Try.prog 56 #[.agg #[.int .i64 f, .int .i64 t, .int .i64 c]] w fun e w' => e = .returned (.int .i64 (longI f t)) ∧ Below w.heap.size w w' := by
  by_cases h : f < t
  · have e1 : longI f t = t - f := by unfold longI; rw [if_pos h]
    rw [e1]
    clear e1
    go_enter Try.func56, Try.ntmps56
    go_wp2_with fail
    refine (axisRises f t c _).mono ?_; rintro e w1 ⟨rfl, b1⟩
    obtain ⟨c0, c1, c2⟩ := box3 b1
    go_wp2
    go_ret
    exact ⟨rfl, ((Below.refl _ _).alloc (Nat.le_refl _) _).trans (b1.mono (by simp))⟩
  · have e1 : longI f t = f - t := by unfold longI; rw [if_neg h]
    rw [e1]
    clear e1
    go_enter Try.func56, Try.ntmps56
    go_wp2_with fail
    refine (axisRises f t c _).mono ?_; rintro e w1 ⟨rfl, b1⟩
    obtain ⟨c0, c1, c2⟩ := box3 b1
    go_wp2
    go_ret
    exact ⟨rfl, ((Below.refl _ _).alloc (Nat.le_refl _) _).trans (b1.mono (by simp))⟩
theorem axisGoes (f t c : Int) (ht : I64 t) (w : World) :
    Calls Try.prog 35 #[.agg #[.int .i64 f, .int .i64 t, .int .i64 c]] w fun e w' => e = .returned (.bool (decide (Goes t c))) ∧ Below w.heap.size w w' := by
  go_enter Try.func35, Try.ntmps35
  go_wp2
  go_quiet (first | (go_at_call 53; exact Calls.quiet_of_same (gridCell _ (by assumption) _)))
  go_wp2
  go_ret
  exact ⟨ret_bool (by unfold Goes; by_cases e : c = t / 65536 <;> simp [e]), ((Below.refl _ _).alloc (Nat.le_refl _) _).trans (below_drewN _ _)⟩
theorem gridAlong (f t : Int) (hf : I64 f) (w : World) :
    Calls Try.prog 52 #[.int .i64 f, .int .i64 t] w fun e w' => e = .returned (.agg #[.int .i64 f, .int .i64 t, .int .i64 (f / 65536)]) ∧ Below w.heap.size w w' := by
  go_enter Try.func52, Try.ntmps52
  go_wp2_with (first | (go_at_call 53; refine (gridCell _ hf _).mono ?_; rintro e w' ⟨rfl, rfl⟩))
  refine bodyPost_ret (v := .agg #[.int .i64 f, .int .i64 t, .int .i64 (f / 65536)]) ?_ rfl ⟨rfl, ?_⟩
  · simp [results, Try.results52, go_sem]
  · exact (Below.refl _ _).alloc (Nat.le_refl _) _
def cmpI (a b : Int) : Int := if a < b then -1 else if b < a then 1 else 0
theorem cmpNaN (a : Int) (w : World) : Calls Try.prog 63 #[.int .i64 a] w fun e w' => e = .returned (.bool false) ∧ w' = w := by
  go_enter Try.func63, Try.ntmps63
  go_wp2
  go_ret
  exact ⟨ret_bool (by simp), rfl⟩
theorem cmpCompare (a b : Int) (w : World) : Calls Try.prog 54 #[.int .i64 a, .int .i64 b] w fun e w' => e = .returned (.int .i64 (cmpI a b)) ∧ w' = w := by
  go_enter Try.func54, Try.ntmps54
  go_wp2_with (first | (go_at_call 63; refine (cmpNaN _ _).mono ?_; rintro e w' ⟨rfl, rfl⟩))
  all_goals go_ret
  all_goals refine ⟨ret_int ?_, rfl⟩
  all_goals (unfold cmpI; split <;> (try split) <;> omega)
theorem startA2 {w : World} {f1 t1 c1 f2 t2 c2 : Int} (t : TypeId) : w.heap.size + 1 < (((w.alloc (.cells #[.int .i64 f1, .int .i64 t1, .int .i64 c1] t)).alloc (.cells #[.int .i64 f2, .int .i64 t2, .int .i64 c2] t)).drew).heap.size ∧ (((w.alloc (.cells #[.int .i64 f1, .int .i64 t1, .int .i64 c1] t)).alloc (.cells #[.int .i64 f2, .int .i64 t2, .int .i64 c2] t)).drew).cell? ⟨w.heap.size, 0, none⟩ = some (.int .i64 f1) ∧ (((w.alloc (.cells #[.int .i64 f1, .int .i64 t1, .int .i64 c1] t)).alloc (.cells #[.int .i64 f2, .int .i64 t2, .int .i64 c2] t)).drew).cell? ⟨w.heap.size, 1, none⟩ = some (.int .i64 t1) ∧ (((w.alloc (.cells #[.int .i64 f1, .int .i64 t1, .int .i64 c1] t)).alloc (.cells #[.int .i64 f2, .int .i64 t2, .int .i64 c2] t)).drew).cell? ⟨w.heap.size, 2, none⟩ = some (.int .i64 c1) ∧ (((w.alloc (.cells #[.int .i64 f1, .int .i64 t1, .int .i64 c1] t)).alloc (.cells #[.int .i64 f2, .int .i64 t2, .int .i64 c2] t)).drew).cell? ⟨w.heap.size + 1, 0, none⟩ = some (.int .i64 f2) ∧ (((w.alloc (.cells #[.int .i64 f1, .int .i64 t1, .int .i64 c1] t)).alloc (.cells #[.int .i64 f2, .int .i64 t2, .int .i64 c2] t)).drew).cell? ⟨w.heap.size + 1, 1, none⟩ = some (.int .i64 t2) ∧ (((w.alloc (.cells #[.int .i64 f1, .int .i64 t1, .int .i64 c1] t)).alloc (.cells #[.int .i64 f2, .int .i64 t2, .int .i64 c2] t)).drew).cell? ⟨w.heap.size + 1, 2, none⟩ = some (.int .i64 c2) ∧ Below w.heap.size w (((w.alloc (.cells #[.int .i64 f1, .int .i64 t1, .int .i64 c1] t)).alloc (.cells #[.int .i64 f2, .int .i64 t2, .int .i64 c2] t)).drew) :=
  ⟨by simp [go_sem], by simp [go_sem], by simp [go_sem], by simp [go_sem], by simp [go_sem], by simp [go_sem], by simp [go_sem], (((Below.refl _ _).alloc (Nat.le_refl _) _).alloc (by simp) _).drew⟩
theorem keepA2 {w W w1 : World} {f1 t1 c1 f2 t2 c2 : Int} (hb : Below W.heap.size W w1) (h : w.heap.size + 1 < W.heap.size ∧ W.cell? ⟨w.heap.size, 0, none⟩ = some (.int .i64 f1) ∧ W.cell? ⟨w.heap.size, 1, none⟩ = some (.int .i64 t1) ∧ W.cell? ⟨w.heap.size, 2, none⟩ = some (.int .i64 c1) ∧ W.cell? ⟨w.heap.size + 1, 0, none⟩ = some (.int .i64 f2) ∧ W.cell? ⟨w.heap.size + 1, 1, none⟩ = some (.int .i64 t2) ∧ W.cell? ⟨w.heap.size + 1, 2, none⟩ = some (.int .i64 c2) ∧ Below w.heap.size w W) : w.heap.size + 1 < w1.heap.size ∧ w1.cell? ⟨w.heap.size, 0, none⟩ = some (.int .i64 f1) ∧ w1.cell? ⟨w.heap.size, 1, none⟩ = some (.int .i64 t1) ∧ w1.cell? ⟨w.heap.size, 2, none⟩ = some (.int .i64 c1) ∧ w1.cell? ⟨w.heap.size + 1, 0, none⟩ = some (.int .i64 f2) ∧ w1.cell? ⟨w.heap.size + 1, 1, none⟩ = some (.int .i64 t2) ∧ w1.cell? ⟨w.heap.size + 1, 2, none⟩ = some (.int .i64 c2) ∧ Below w.heap.size w w1 := by
  obtain ⟨h0, h1, h2, h3, h4, h5, h6, h7⟩ := h
  exact ⟨Nat.lt_of_lt_of_le h0 hb.size, keepCell hb (by omega) h1, keepCell hb (by omega) h2, keepCell hb (by omega) h3, keepCell hb (by omega) h4, keepCell hb (by omega) h5, keepCell hb (by omega) h6, h7.trans (hb.mono (by omega))⟩
/-- An axis within a map. -/
structure AxOk (f t c : Int) : Prop where
  f0 : 0 ≤ f
  f1 : f < 4194304
  t0 : 0 ≤ t
  t1 : t < 4194304
  c0 : 0 ≤ c
  c1 : c < 64
theorem AxOk.i64 {f t c : Int} (h : AxOk f t c) : I64 f ∧ I64 t ∧ I64 c := by
  obtain ⟨_, _, _, _, _, _⟩ := h
  exact ⟨⟨by omega, by omega⟩, ⟨by omega, by omega⟩, ⟨by omega, by omega⟩⟩
theorem wrapI {n : Int} (h0 : -9223372036854775808 ≤ n) (h : n ≤ 9223372036854775807) : IntKind.i64.wrap n = n := by
  unfold IntKind.wrap
  simp only [IntKind.signed, IntKind.bits, Bool.true_and]
  split <;> rename_i hc <;> simp at hc <;> omega
theorem AxOk.mul {f t c f' t' c' : Int} (h : AxOk f t c) (h' : AxOk f' t' c') : IntKind.i64.wrap (edgeI f t c * longI f' t') = edgeI f t c * longI f' t' := by
  obtain ⟨_, _, _, _, _, _⟩ := h
  obtain ⟨_, _, _, _, _, _⟩ := h'
  have a1 : -4194304 ≤ edgeI f t c ∧ edgeI f t c ≤ 4194304 := by unfold edgeI; split <;> omega
  have a2 : 0 ≤ longI f' t' ∧ longI f' t' ≤ 4194304 := by unfold longI; split <;> omega
  have b1 := Int.mul_le_mul_of_nonneg_right a1.2 a2.1
  have b2 := Int.mul_le_mul_of_nonneg_right a1.1 a2.1
  exact wrapI (by omega) (by omega)
theorem axisEdgeA (f t c : Int) (h : AxOk f t c) (w : World) :
    Calls Try.prog 55 #[.agg #[.int .i64 f, .int .i64 t, .int .i64 c]] w fun e w' => e = .returned (.int .i64 (edgeI f t c)) ∧ Below w.heap.size w w' :=
  axisEdge f t c h.i64.1 h.i64.2.1 h.f0 (by have := h.f1; omega) h.c0 (by have := h.c1; omega) w
theorem axisLongA (f t c : Int) (h : AxOk f t c) (w : World) :
    Calls Try.prog 56 #[.agg #[.int .i64 f, .int .i64 t, .int .i64 c]] w fun e w' => e = .returned (.int .i64 (longI f t)) ∧ Below w.heap.size w w' :=
  axisLong f t c h.i64.1 h.i64.2.1 h.f0 (by have := h.f1; omega) h.t0 (by have := h.t1; omega) w
set_option maxHeartbeats 1000000 in
theorem axisAgainst (f1 t1 c1 f2 t2 c2 : Int) (h1 : AxOk f1 t1 c1) (h2 : AxOk f2 t2 c2) (w : World) :
    Calls Try.prog 36 #[.agg #[.int .i64 f1, .int .i64 t1, .int .i64 c1], .agg #[.int .i64 f2, .int .i64 t2, .int .i64 c2]] w fun e w' => e = .returned (.int .i64 (cmpI (edgeI f1 t1 c1 * longI f2 t2) (edgeI f2 t2 c2 * longI f1 t1))) ∧ Below w.heap.size w w' := by
  obtain ⟨if1, it1, ic1⟩ := h1.i64
  obtain ⟨if2, it2, ic2⟩ := h2.i64
  have m1 := h1.mul h2; have m2 := h2.mul h1
  go_enter Try.func36, Try.ntmps36
  go_wp2
  go_region_held3 (fun w' => w.heap.size + 1 < w'.heap.size ∧ w'.cell? ⟨w.heap.size, 0, none⟩ = some (.int .i64 f1) ∧ w'.cell? ⟨w.heap.size, 1, none⟩ = some (.int .i64 t1) ∧ w'.cell? ⟨w.heap.size, 2, none⟩ = some (.int .i64 c1) ∧ w'.cell? ⟨w.heap.size + 1, 0, none⟩ = some (.int .i64 f2) ∧ w'.cell? ⟨w.heap.size + 1, 1, none⟩ = some (.int .i64 t2) ∧ w'.cell? ⟨w.heap.size + 1, 2, none⟩ = some (.int .i64 c2) ∧ Below w.heap.size w w')
    (first | assumption | exact startA2 _ | exact keepA2 (by assumption) (by assumption))
    (first
      | (go_at_call 55; refine (axisEdgeA _ _ _ (by assumption) _).mono ?_; rintro e w1 ⟨rfl, bel1⟩)
      | (go_at_call 56; refine (axisLongA _ _ _ (by assumption) _).mono ?_; rintro e w1 ⟨rfl, bel1⟩)
      | (go_at_call 54; refine (cmpCompare _ _ _).mono ?_; rintro e w1 ⟨rfl, rfl⟩))
  rename_i hH
  go_wp2
  go_ret
  exact ⟨rfl, hH.2.2.2.2.2.2.2⟩
end Go.Proofs.Ytpghdfleffgilaa
