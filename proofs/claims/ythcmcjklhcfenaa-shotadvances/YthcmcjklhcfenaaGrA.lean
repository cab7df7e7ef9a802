/- Layer 9 (grid): the contracts of cell, At, within, rises, goes, edge, long, along, Compare, against. -/
import Derived.Test.YthcmcjklhcfenaaGsF
import Derived.Test.YthcmcjklhcfenaaBtA
import Derived.Test.YthcmcjklhcfenaaGrN
import Derived.Deep.QuietTactic
import Derived.BigQuiet
namespace Go.Proofs.Ythcmcjklhcfenaa
open Go.RowKit
set_option linter.unusedVariables false
set_option linter.unusedSimpArgs false
attribute [local go_sem ↓] Go.wp_at_zero Go.wp_at_succ

theorem gridCell (n : Int) (hn : I64 n) (w : World) :
    Calls Try.prog 30 #[.int .i64 n] w fun e w' => e = .returned (.int .i64 (n / 65536)) ∧ w' = w := by
  have h0 := hn.lo; have h1 := hn.hi
  go_enter Try.func30, Try.ntmps30
  go_wp2
  go_ret
  exact ⟨ret_int (by simp), rfl⟩
theorem gridWithin (n s : Int) (w : World) :
    Calls Try.prog 31 #[.int .i64 n, .int .i64 s] w fun e w' => e = .returned (.bool (decide (0 ≤ n ∧ n < s))) ∧ w' = w := by
  by_cases h : 0 ≤ n
  · go_enter Try.func31, Try.ntmps31
    go_wp2
    go_ret
    exact ⟨ret_bool (by simp [h]), rfl⟩
  · go_enter Try.func31, Try.ntmps31
    go_wp2
    go_ret
    exact ⟨ret_bool (by simp; omega), rfl⟩
theorem gridAt (x y z : Int) (hx : I64 x) (hy : I64 y) (hz : I64 z) (w : World) :
    Calls Try.prog 19 #[.agg #[.int .i64 x, .int .i64 y, .int .i64 z]] w fun e w' => e = .returned (.tuple #[.int .i64 (x / 65536), .int .i64 (y / 65536), .int .i64 (z / 65536)]) ∧ Below w.heap.size w w' := by
  go_enter Try.func19, Try.ntmps19
  go_wp2
  go_quiet (first | (go_at_call 30; exact Calls.quiet_of_same (gridCell _ (by assumption) _)))
  go_wp2
  refine bodyPost_ret (v := .tuple #[.int .i64 (x / 65536), .int .i64 (y / 65536), .int .i64 (z / 65536)]) ?_ rfl ⟨rfl, ((Below.refl _ _).alloc (Nat.le_refl _) _).trans (below_drewN _ _)⟩
  simp [results, Try.results19, go_sem]
/-- A box of three cells stays. -/
theorem box3 {w w1 : World} {a b c : Int} {t : TypeId} (hb : Below (w.alloc (.cells #[.int .i64 a, .int .i64 b, .int .i64 c] t)).heap.size (w.alloc (.cells #[.int .i64 a, .int .i64 b, .int .i64 c] t)) w1) :
    w1.cell? ⟨w.heap.size, 0, none⟩ = some (.int .i64 a) ∧ w1.cell? ⟨w.heap.size, 1, none⟩ = some (.int .i64 b) ∧ w1.cell? ⟨w.heap.size, 2, none⟩ = some (.int .i64 c) :=
  ⟨keepCell hb (by simp) (by simp [go_sem]), keepCell hb (by simp) (by simp [go_sem]), keepCell hb (by simp) (by simp [go_sem])⟩
def cmpI (a b : Int) : Int := if a < b then -1 else if b < a then 1 else 0
theorem startA2 {w : World} {f1 t1 c1 f2 t2 c2 : Int} (t : TypeId) : w.heap.size + 1 < (((w.alloc (.cells #[.int .i64 f1, .int .i64 t1, .int .i64 c1] t)).alloc (.cells #[.int .i64 f2, .int .i64 t2, .int .i64 c2] t)).drew).heap.size ∧ (((w.alloc (.cells #[.int .i64 f1, .int .i64 t1, .int .i64 c1] t)).alloc (.cells #[.int .i64 f2, .int .i64 t2, .int .i64 c2] t)).drew).cell? ⟨w.heap.size, 0, none⟩ = some (.int .i64 f1) ∧ (((w.alloc (.cells #[.int .i64 f1, .int .i64 t1, .int .i64 c1] t)).alloc (.cells #[.int .i64 f2, .int .i64 t2, .int .i64 c2] t)).drew).cell? ⟨w.heap.size, 1, none⟩ = some (.int .i64 t1) ∧ (((w.alloc (.cells #[.int .i64 f1, .int .i64 t1, .int .i64 c1] t)).alloc (.cells #[.int .i64 f2, .int .i64 t2, .int .i64 c2] t)).drew).cell? ⟨w.heap.size, 2, none⟩ = some (.int .i64 c1) ∧ (((w.alloc (.cells #[.int .i64 f1, .int .i64 t1, .int .i64 c1] t)).alloc (.cells #[.int .i64 f2, .int .i64 t2, .int .i64 c2] t)).drew).cell? ⟨w.heap.size + 1, 0, none⟩ = some (.int .i64 f2) ∧ (((w.alloc (.cells #[.int .i64 f1, .int .i64 t1, .int .i64 c1] t)).alloc (.cells #[.int .i64 f2, .int .i64 t2, .int .i64 c2] t)).drew).cell? ⟨w.heap.size + 1, 1, none⟩ = some (.int .i64 t2) ∧ (((w.alloc (.cells #[.int .i64 f1, .int .i64 t1, .int .i64 c1] t)).alloc (.cells #[.int .i64 f2, .int .i64 t2, .int .i64 c2] t)).drew).cell? ⟨w.heap.size + 1, 2, none⟩ = some (.int .i64 c2) ∧ Below w.heap.size w (((w.alloc (.cells #[.int .i64 f1, .int .i64 t1, .int .i64 c1] t)).alloc (.cells #[.int .i64 f2, .int .i64 t2, .int .i64 c2] t)).drew) :=
  ⟨by simp [go_sem], by simp [go_sem], by simp [go_sem], by simp [go_sem], by simp [go_sem], by simp [go_sem], by simp [go_sem], (((Below.refl _ _).alloc (Nat.le_refl _) _).alloc (by simp) _).drew⟩
theorem keepA2 {w W w1 : World} {f1 t1 c1 f2 t2 c2 : Int} (hb : Below W.heap.size W w1) (h : w.heap.size + 1 < W.heap.size ∧ W.cell? ⟨w.heap.size, 0, none⟩ = some (.int .i64 f1) ∧ W.cell? ⟨w.heap.size, 1, none⟩ = some (.int .i64 t1) ∧ W.cell? ⟨w.heap.size, 2, none⟩ = some (.int .i64 c1) ∧ W.cell? ⟨w.heap.size + 1, 0, none⟩ = some (.int .i64 f2) ∧ W.cell? ⟨w.heap.size + 1, 1, none⟩ = some (.int .i64 t2) ∧ W.cell? ⟨w.heap.size + 1, 2, none⟩ = some (.int .i64 c2) ∧ Below w.heap.size w W) : w.heap.size + 1 < w1.heap.size ∧ w1.cell? ⟨w.heap.size, 0, none⟩ = some (.int .i64 f1) ∧ w1.cell? ⟨w.heap.size, 1, none⟩ = some (.int .i64 t1) ∧ w1.cell? ⟨w.heap.size, 2, none⟩ = some (.int .i64 c1) ∧ w1.cell? ⟨w.heap.size + 1, 0, none⟩ = some (.int .i64 f2) ∧ w1.cell? ⟨w.heap.size + 1, 1, none⟩ = some (.int .i64 t2) ∧ w1.cell? ⟨w.heap.size + 1, 2, none⟩ = some (.int .i64 c2) ∧ Below w.heap.size w w1 := by
  obtain ⟨h0, h1, h2, h3, h4, h5, h6, h7⟩ := h
  exact ⟨Nat.lt_of_lt_of_le h0 hb.size, keepCell hb (by omega) h1, keepCell hb (by omega) h2, keepCell hb (by omega) h3, keepCell hb (by omega) h4, keepCell hb (by omega) h5, keepCell hb (by omega) h6, h7.trans (hb.mono (by omega))⟩
/-- An axis within a map. -/
structure AxOk (f t c : Int) : Prop where
  f0 : 0 ≤ f
  f1 : f < 4194304
  t0 : 0 ≤ t
  t1 : t < 4194304
  c0 : 0 ≤ c
  c1 : c < 64
theorem AxOk.i64 {f t c : Int} (h : AxOk f t c) : I64 f ∧ I64 t ∧ I64 c := by
  obtain ⟨_, _, _, _, _, _⟩ := h
  exact ⟨⟨by omega, by omega⟩, ⟨by omega, by omega⟩, ⟨by omega, by omega⟩⟩
theorem wrapI {n : Int} (h0 : -9223372036854775808 ≤ n) (h : n ≤ 9223372036854775807) : IntKind.i64.wrap n = n := by
  unfold IntKind.wrap
  simp only [IntKind.signed, IntKind.bits, Bool.true_and]
  split <;> rename_i hc <;> simp at hc <;> omega
theorem AxOk.mul {f t c f' t' c' : Int} (h : AxOk f t c) (h' : AxOk f' t' c') : IntKind.i64.wrap (edgeI f t c * longI f' t') = edgeI f t c * longI f' t' := by
  obtain ⟨_, _, _, _, _, _⟩ := h
  obtain ⟨_, _, _, _, _, _⟩ := h'
  have a1 : -4194304 ≤ edgeI f t c ∧ edgeI f t c ≤ 4194304 := by unfold edgeI; split <;> omega
  have a2 : 0 ≤ longI f' t' ∧ longI f' t' ≤ 4194304 := by unfold longI; split <;> omega
  have b1 := Int.mul_le_mul_of_nonneg_right a1.2 a2.1
  have b2 := Int.mul_le_mul_of_nonneg_right a1.1 a2.1
  exact wrapI (by omega) (by omega)
end Go.Proofs.Ythcmcjklhcfenaa
