/- Layer 9 (grid): the laws' own helpers: open, at, lies. -/
import Derived.Test.YtfcaekboonnmaaaGrI
import Derived.Test.YtfcaekboonnmaaaGrK
import Derived.Deep.OwnRows
namespace Go.Proofs.Ytfcaekboonnmaaa
open Go.RowKit
set_option linter.unusedVariables false
set_option linter.unusedSimpArgs false
attribute [local go_sem ↓] Go.wp_at_zero Go.wp_at_succ

theorem info_bool : (Try.prog.info? 4).map (fun i => (i.zero, i.size, i.bytes)) = some (some (.bool false), 1, 1) := by kernel_rfl
theorem lawOpen (W D H : Int) (n : Nat) (hW : I64 W) (hD : I64 D) (hH : I64 H) (h1 : IntKind.i64.wrap (W * D) = W * D) (h2 : IntKind.i64.wrap (W * D * H) = n) (hn : n ≤ 32768) (w : World) :
    Calls Try.prog 25 #[.int .i64 W, .int .i64 D, .int .i64 H] w fun e w' => (∃ g, w.heap.size ≤ g ∧ w'.heap[g]? = some (.cells (madeCells #[.bool false] n) 4 (0, 0)) ∧ e = .returned (.agg #[.int .i64 W, .int .i64 D, .int .i64 H, .slice (some ⟨g, 0, none⟩) n n, .slice none 0 0])) ∧ Below w.heap.size w w' := by
  have hmk := fun W => run_make_row' (P := Try.prog) 22 4 (.bool false) 1 Try.underlying22 info_bool rfl .i64 .i64 n (by omega) (by omega) W
  go_enter Try.func25, Try.ntmps25
  go_wp2
  refine bodyPost_ret (v := .agg #[.int .i64 W, .int .i64 D, .int .i64 H, .slice (some ⟨w.heap.size + 1, 0, none⟩) n n, .slice none 0 0]) ?_ rfl ⟨⟨w.heap.size + 1, by omega, ?_, rfl⟩, ((Below.refl _ _).alloc (Nat.le_refl _) _).alloc (by simp) _⟩
  · simp [results, Try.results25, go_sem]
  · have := heap_alloc_new (w.alloc (.cells #[.int .i64 W, .int .i64 D, .int .i64 H, .slice (some ⟨w.heap.size + 1, 0, none⟩) n n, .slice none 0 0] 25)) (.cells (madeCells #[.bool false] n) 4)
    simpa using this
theorem lawAt (x y z : Int) (hx : 0 ≤ x ∧ x < 1000) (hy : 0 ≤ y ∧ y < 1000) (hz : 0 ≤ z ∧ z < 1000) (w : World) :
    Calls Try.prog 27 #[.int .i64 x, .int .i64 y, .int .i64 z] w fun e w' => e = .returned (.agg #[.int .i64 (x * 32768), .int .i64 (y * 32768), .int .i64 (z * 32768)]) ∧ Below w.heap.size w w' := by
  obtain ⟨x0, x1⟩ := hx; obtain ⟨y0, y1⟩ := hy; obtain ⟨z0, z1⟩ := hz
  have ex : Int.tdiv (x * 65536) 2 = x * 32768 := by rw [Int.tdiv_eq_ediv_of_nonneg (by omega)]; omega
  have ey : Int.tdiv (y * 65536) 2 = y * 32768 := by rw [Int.tdiv_eq_ediv_of_nonneg (by omega)]; omega
  have ez : Int.tdiv (z * 65536) 2 = z * 32768 := by rw [Int.tdiv_eq_ediv_of_nonneg (by omega)]; omega
  go_enter Try.func27, Try.ntmps27
  go_wp2
  refine bodyPost_ret (v := .agg #[.int .i64 (x * 32768), .int .i64 (y * 32768), .int .i64 (z * 32768)]) ?_ rfl ⟨rfl, (Below.refl _ _).alloc (Nat.le_refl _) _⟩
  simp [results, Try.results27, go_sem]
theorem lawLies (n c : Int) (hn : I64 n) (hc : c = n / 65536) (w : World) :
    Calls Try.prog 26 #[.int .i64 n, .int .i64 c] w fun e w' => e = .returned (.bool true) ∧ w' = w := by
  have h0 := hn.lo; have h1 := hn.hi
  subst hc
  go_enter Try.func26, Try.ntmps26
  go_wp2
  go_ret
  exact ⟨ret_bool (decide_eq_true (by omega)), rfl⟩
theorem min_is {n k N : Nat} (h : min n k = N) (ts : Array TypeId) (t : TypeId) (W : World) : (Builtin.min_ ts t #[.int .i64 (n : Int), .int .i64 (k : Int)]).run Try.prog W = .ok (.int .i64 (N : Int)) W := by
  rw [run_min_int2]; split <;> (congr 2; omega)
set_option maxHeartbeats 1000000 in
theorem lawSmall (W D H : Int) (mp : Option Addr) (mn mc : Nat) (mf : Nat → Bool) (sp : Option Addr) (sn sc : Nat) (hm : mn ≤ mc) (hm2 : mc ≤ maxLen) (hs : sn ≤ sc) (hs2 : sc ≤ maxLen) (w : World) :
    Calls Try.prog 14 #[.agg #[.int .i64 W, .int .i64 D, .int .i64 H, .slice mp mn mc, .slice sp sn sc]] w fun e w' => e = .returned (.agg #[.int .i64 W, .int .i64 D, .int .i64 H, .slice mp ((min mn 32768 : Nat) : Nat) mc, .slice sp ((min sn 70 : Nat) : Nat) sc]) ∧ Below w.heap.size w w' := by
  unfold maxLen at hm2 hs2
  obtain ⟨a, ha⟩ : ∃ a, min mn 32768 = a := ⟨_, rfl⟩
  obtain ⟨b, hb⟩ : ∃ a, min sn 70 = a := ⟨_, rfl⟩
  have la : a ≤ mn := by omega
  have lb : b ≤ sn := by omega
  have lac : (a : Int) ≤ mc := by omega
  have lbc : (b : Int) ≤ sc := by omega
  have min_a : ∀ ts t W, (Builtin.min_ ts t #[.int .i64 (mn : Int), .int .i64 32768]).run Try.prog W = .ok (.int .i64 (a : Int)) W := min_is ha
  have min_b : ∀ ts t W, (Builtin.min_ ts t #[.int .i64 (sn : Int), .int .i64 70]).run Try.prog W = .ok (.int .i64 (b : Int)) W := min_is hb
  rw [ha, hb]
  clear ha hb
  go_enter Try.func14, Try.ntmps14
  go_wp2
  refine bodyPost_ret (v := .agg #[.int .i64 W, .int .i64 D, .int .i64 H, .slice mp a mc, .slice sp b sc]) ?_ rfl ⟨rfl, ?_⟩
  · simp [results, Try.results14, go_sem]
  · exact ((Below.refl _ _).alloc (Nat.le_refl _) _).alloc (by simp) _
end Go.Proofs.Ytfcaekboonnmaaa
