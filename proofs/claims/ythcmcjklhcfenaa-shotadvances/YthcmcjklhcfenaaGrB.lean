/- Layer 9 (grid): the contracts of sized, Solid, solidAt, (line).solid. -/
import Derived.Test.YthcmcjklhcfenaaGrA
import Derived.Test.YthcmcjklhcfenaaBtArg
import Derived.Lib.SliceRun
namespace Go.Proofs.Ythcmcjklhcfenaa
open Go.RowKit
set_option linter.unusedVariables false
set_option linter.unusedSimpArgs false
attribute [local go_sem ↓] Go.wp_at_zero Go.wp_at_succ

def mpOf (W D H : Int) (n : Nat) (f : Nat → Bool) : Mp := ⟨W, D, H, n, f⟩
theorem sized_mul {W D H : Int} (hW : 1 ≤ W ∧ W ≤ 32) (hD : 1 ≤ D ∧ D ≤ 32) (hH : 1 ≤ H ∧ H ≤ 32) : (1 ≤ W * D ∧ W * D ≤ 1024) ∧ (1 ≤ W * D * H ∧ W * D * H ≤ 32768) ∧ IntKind.i64.wrap (W * D) = W * D ∧ IntKind.i64.wrap (W * D * H) = W * D * H := by
  have a1 := Int.mul_le_mul_of_nonneg_right hW.2 (show 0 ≤ D by omega)
  have a2 := Int.mul_le_mul_of_nonneg_right hW.1 (show 0 ≤ D by omega)
  have b1 := Int.mul_le_mul_of_nonneg_right (show W * D ≤ 1024 by omega) (show 0 ≤ H by omega)
  have b2 := Int.mul_le_mul_of_nonneg_right (show 1 ≤ W * D by omega) (show 0 ≤ H by omega)
  exact ⟨⟨by omega, by omega⟩, ⟨by omega, by omega⟩, wrapI (by omega) (by omega), wrapI (by omega) (by omega)⟩
theorem sized_no {W D H : Int} {n : Nat} {f : Nat → Bool} (h : ¬ ((1 ≤ W ∧ W ≤ 32) ∧ (1 ≤ D ∧ D ≤ 32) ∧ (1 ≤ H ∧ H ≤ 32))) : false = decide (mpOf W D H n f).Sized := by
  symm; apply decide_eq_false
  rintro ⟨_, _, _, _, _, _, _⟩
  exact h ⟨⟨by assumption, by assumption⟩, ⟨by assumption, by assumption⟩, ⟨by assumption, by assumption⟩⟩
theorem idx3 (x y z : Value) : (∀ w, (Instr.index 67 (.agg #[x, y, z]) (.int .i64 0)).run Try.prog w = .ok x w) ∧ (∀ w, (Instr.index 67 (.agg #[x, y, z]) (.int .i64 1)).run Try.prog w = .ok y w) ∧ (∀ w, (Instr.index 67 (.agg #[x, y, z]) (.int .i64 2)).run Try.prog w = .ok z w) :=
  ⟨fun _ => by kernel_rfl, fun _ => by kernel_rfl, fun _ => by kernel_rfl⟩
set_option maxHeartbeats 1000000 in
theorem gridSized (W D H : Int) (mp : Option Addr) (mn mc : Nat) (mf : Nat → Bool) (sp : Option Addr) (sn sc : Nat) (w : World) :
    Calls Try.prog 26 #[.agg #[.int .i64 W, .int .i64 D, .int .i64 H, .slice mp mn mc, .slice sp sn sc]] w fun e w' => e = .returned (.bool (decide (mpOf W D H mn mf).Sized)) ∧ Below w.heap.size w w' := by
  obtain ⟨i0, i1, i2⟩ := idx3 (.int .i64 W) (.int .i64 D) (.int .i64 H)
  by_cases h1 : 1 ≤ W ∧ W ≤ 32
  · by_cases h2 : 1 ≤ D ∧ D ≤ 32
    · by_cases h3 : 1 ≤ H ∧ H ≤ 32
      · obtain ⟨_, _, m1, m2⟩ := sized_mul h1 h2 h3
        obtain ⟨a1, a2⟩ := h1; obtain ⟨a3, a4⟩ := h2; obtain ⟨a5, a6⟩ := h3
        go_enter Try.func26, Try.ntmps26
        go_wp2
        refine wp_loop_rounds 4 ?_
        rw [rounds_succ]
        go_wp2
        rw [rounds_succ]
        go_wp2
        rw [rounds_succ]
        go_wp2
        rw [rounds_succ]
        go_wp2
        go_ret
        refine ⟨ret_bool ?_, (Below.refl _ _).alloc (Nat.le_refl _) _⟩
        simp [Mp.Sized, mpOf, a1, a2, a3, a4, a5, a6]
        exact Bool.eq_iff_iff.2 (by simp)
      · obtain ⟨a1, a2⟩ := h1; obtain ⟨a3, a4⟩ := h2
        have e1 := sized_no (n := mn) (f := mf) (W := W) (D := D) (H := H) (by omega)
        rw [← e1]
        clear e1
        rcases Int.lt_or_le H 1 with h | h
        · go_enter Try.func26, Try.ntmps26
          go_wp2
          refine wp_loop_rounds 4 ?_
          rw [rounds_succ]
          go_wp2
          rw [rounds_succ]
          go_wp2
          rw [rounds_succ]
          go_wp2
          go_ret
          exact ⟨rfl, (Below.refl _ _).alloc (Nat.le_refl _) _⟩
        · have h' : 32 < H := by omega
          go_enter Try.func26, Try.ntmps26
          go_wp2
          refine wp_loop_rounds 4 ?_
          rw [rounds_succ]
          go_wp2
          rw [rounds_succ]
          go_wp2
          rw [rounds_succ]
          go_wp2
          go_ret
          exact ⟨rfl, (Below.refl _ _).alloc (Nat.le_refl _) _⟩
    · obtain ⟨a1, a2⟩ := h1
      have e1 := sized_no (n := mn) (f := mf) (W := W) (D := D) (H := H) (by omega)
      rw [← e1]
      clear e1
      rcases Int.lt_or_le D 1 with h | h
      · go_enter Try.func26, Try.ntmps26
        go_wp2
        refine wp_loop_rounds 4 ?_
        rw [rounds_succ]
        go_wp2
        rw [rounds_succ]
        go_wp2
        go_ret
        exact ⟨rfl, (Below.refl _ _).alloc (Nat.le_refl _) _⟩
      · have h' : 32 < D := by omega
        go_enter Try.func26, Try.ntmps26
        go_wp2
        refine wp_loop_rounds 4 ?_
        rw [rounds_succ]
        go_wp2
        rw [rounds_succ]
        go_wp2
        go_ret
        exact ⟨rfl, (Below.refl _ _).alloc (Nat.le_refl _) _⟩
  · skip
    have e1 := sized_no (n := mn) (f := mf) (W := W) (D := D) (H := H) (by omega)
    rw [← e1]
    clear e1
    rcases Int.lt_or_le W 1 with h | h
    · go_enter Try.func26, Try.ntmps26
      go_wp2
      refine wp_loop_rounds 4 ?_
      rw [rounds_succ]
      go_wp2
      go_ret
      exact ⟨rfl, (Below.refl _ _).alloc (Nat.le_refl _) _⟩
    · have h' : 32 < W := by omega
      go_enter Try.func26, Try.ntmps26
      go_wp2
      refine wp_loop_rounds 4 ?_
      rw [rounds_succ]
      go_wp2
      go_ret
      exact ⟨rfl, (Below.refl _ _).alloc (Nat.le_refl _) _⟩
theorem box5 {w w1 : World} {W D H : Int} {x y : Value} {t : TypeId} (hb : Below (w.alloc (.cells #[.int .i64 W, .int .i64 D, .int .i64 H, x, y] t)).heap.size (w.alloc (.cells #[.int .i64 W, .int .i64 D, .int .i64 H, x, y] t)) w1) :
    w1.cell? ⟨w.heap.size, 0, none⟩ = some (.int .i64 W) ∧ w1.cell? ⟨w.heap.size, 1, none⟩ = some (.int .i64 D) ∧ w1.cell? ⟨w.heap.size, 2, none⟩ = some (.int .i64 H) ∧ w1.cell? ⟨w.heap.size, 3, none⟩ = some x ∧ w1.cell? ⟨w.heap.size, 4, none⟩ = some y :=
  ⟨keepCell hb (by simp) (by simp [go_sem]), keepCell hb (by simp) (by simp [go_sem]), keepCell hb (by simp) (by simp [go_sem]), keepCell hb (by simp) (by simp [go_sem]), keepCell hb (by simp) (by simp [go_sem])⟩
theorem solid_at {M : Mp} {x y z : Int} (h : M.Sized) (hx : 0 ≤ x ∧ x < M.W) (hy : 0 ≤ y ∧ y < M.D) (hz : 0 ≤ z ∧ z < M.H) :
    ∃ k : Nat, k < M.n ∧ (z * M.D + y) * M.W + x = (k : Int) ∧ M.solid x y z = M.f k ∧ IntKind.i64.wrap (z * M.D) = z * M.D ∧ IntKind.i64.wrap (z * M.D + y) = z * M.D + y ∧ IntKind.i64.wrap ((z * M.D + y) * M.W) = (z * M.D + y) * M.W ∧ IntKind.i64.wrap ((k : Int)) = k := by
  obtain ⟨a1, a2, a3, a4, a5, a6, a7⟩ := h
  have b1 : 0 ≤ z * M.D := Int.mul_nonneg hz.1 (by omega)
  have b2 : z * M.D ≤ (M.H - 1) * M.D := Int.mul_le_mul_of_nonneg_right (by omega) (by omega)
  have b3 : (M.H - 1) * M.D = M.H * M.D - M.D := by grind
  have b4 : 0 ≤ (z * M.D + y) * M.W := Int.mul_nonneg (by omega) (by omega)
  have b5 : (z * M.D + y) * M.W ≤ (M.H * M.D - 1) * M.W := Int.mul_le_mul_of_nonneg_right (by omega) (by omega)
  have b6 : (M.H * M.D - 1) * M.W = M.W * M.D * M.H - M.W := by grind
  obtain ⟨_, ⟨_, b8⟩, _, _⟩ := sized_mul ⟨a1, a2⟩ ⟨a3, a4⟩ ⟨a5, a6⟩
  have b9 : M.H * M.D ≤ 1024 := by
    have := Int.mul_le_mul_of_nonneg_right a6 (show 0 ≤ M.D by omega)
    omega
  refine ⟨((z * M.D + y) * M.W + x).toNat, by omega, by omega, ?_, wrapI (by omega) (by omega), wrapI (by omega) (by omega), wrapI (by omega) (by omega), wrapI (by omega) (by omega)⟩
  cases hf : M.f ((z * M.D + y) * M.W + x).toNat with
  | true =>
    rw [Mp.solid_t]
    rintro ⟨_, _, _, _, _, _, _, h⟩
    rw [hf] at h; cases h
  | false =>
    rw [Mp.solid_f]
    exact ⟨⟨a1, a2, a3, a4, a5, a6, a7⟩, hx.1, hx.2, hy.1, hy.2, hz.1, hz.2, hf⟩
set_option maxHeartbeats 1000000 in
theorem gridSolid (W D H : Int) (mp : Option Addr) (mn mc : Nat) (mf : Nat → Bool) (sp : Option Addr) (sn sc : Nat) (x y z : Int) (w : World) (hm : Arg w mp mn mc fun i => .bool (mf i)) :
    Calls Try.prog 20 #[.agg #[.int .i64 W, .int .i64 D, .int .i64 H, .slice mp mn mc, .slice sp sn sc], .int .i64 x, .int .i64 y, .int .i64 z] w fun e w' => e = .returned (.bool ((mpOf W D H mn mf).solid x y z)) ∧ Below w.heap.size w w' := by
  have hsz := fun W' => gridSized W D H mp mn mc mf sp sn sc W'
  have hle := hm.le; have hmost := hm.most
  unfold maxLen at hmost
  by_cases hs : (mpOf W D H mn mf).Sized
  · rw [decide_eq_true hs] at hsz
    by_cases hx : 0 ≤ x ∧ x < W
    · by_cases hy : 0 ≤ y ∧ y < D
      · by_cases hz : 0 ≤ z ∧ z < H
        · obtain ⟨k, hk, hke, hsol, w1, w2, w3, w4⟩ := solid_at (M := (mpOf W D H mn mf)) hs hx hy hz
          dsimp only [mpOf] at hk hke hsol w1 w2 w3
          obtain ⟨b, o, rfl, hbl, hc⟩ := hm.at hk
          rw [show ((mpOf W D H mn mf)).solid x y z = mf k from hsol]
          clear hsol
          go_enter Try.func20, Try.ntmps20
          go_wp2_with fail
          refine (hsz _).mono ?_; rintro e W1 ⟨rfl, b1⟩
          obtain ⟨c0, c1, c2, c3, c4⟩ := box5 b1
          have ck : W1.cell? ⟨b, o + k, none⟩ = some (.bool (mf k)) := keepCell b1 (by simp; omega) (Lib.cell?_alloc_some _ (hc k hk))
          have e1 := decide_eq_true hx; have e2 := decide_eq_true hy; have e3 := decide_eq_true hz
          go_wp2_with (first | (go_at_call 31; refine (gridWithin _ _ _).mono ?_; rintro e w' ⟨rfl, rfl⟩))
          go_ret
          exact ⟨rfl, ((Below.refl _ _).alloc (Nat.le_refl _) _).trans (b1.mono (by simp))⟩
        · have ht : (mpOf W D H mn mf).solid x y z = true := by rw [Mp.solid_t]; rintro ⟨q0, q1, q2, q3, q4, q5, q6, q7⟩; exact hz ⟨q5, q6⟩
          rw [ht]
          clear ht
          go_enter Try.func20, Try.ntmps20
          go_wp2_with fail
          refine (hsz _).mono ?_; rintro e W1 ⟨rfl, b1⟩
          obtain ⟨c0, c1, c2, c3, c4⟩ := box5 b1
          have e1 := decide_eq_true hx; have e2 := decide_eq_true hy; have e3 := decide_eq_false hz
          go_wp2_with (first | (go_at_call 31; refine (gridWithin _ _ _).mono ?_; rintro e w' ⟨rfl, rfl⟩))
          go_ret
          exact ⟨rfl, ((Below.refl _ _).alloc (Nat.le_refl _) _).trans (b1.mono (by simp))⟩
      · have ht : (mpOf W D H mn mf).solid x y z = true := by rw [Mp.solid_t]; rintro ⟨q0, q1, q2, q3, q4, q5, q6, q7⟩; exact hy ⟨q3, q4⟩
        rw [ht]
        clear ht
        go_enter Try.func20, Try.ntmps20
        go_wp2_with fail
        refine (hsz _).mono ?_; rintro e W1 ⟨rfl, b1⟩
        obtain ⟨c0, c1, c2, c3, c4⟩ := box5 b1
        have e1 := decide_eq_true hx; have e2 := decide_eq_false hy
        go_wp2_with (first | (go_at_call 31; refine (gridWithin _ _ _).mono ?_; rintro e w' ⟨rfl, rfl⟩))
        go_ret
        exact ⟨rfl, ((Below.refl _ _).alloc (Nat.le_refl _) _).trans (b1.mono (by simp))⟩
    · have ht : (mpOf W D H mn mf).solid x y z = true := by rw [Mp.solid_t]; rintro ⟨q0, q1, q2, q3, q4, q5, q6, q7⟩; exact hx ⟨q1, q2⟩
      rw [ht]
      clear ht
      go_enter Try.func20, Try.ntmps20
      go_wp2_with fail
      refine (hsz _).mono ?_; rintro e W1 ⟨rfl, b1⟩
      obtain ⟨c0, c1, c2, c3, c4⟩ := box5 b1
      have e1 := decide_eq_false hx
      go_wp2_with (first | (go_at_call 31; refine (gridWithin _ _ _).mono ?_; rintro e w' ⟨rfl, rfl⟩))
      go_ret
      exact ⟨rfl, ((Below.refl _ _).alloc (Nat.le_refl _) _).trans (b1.mono (by simp))⟩
  · rw [decide_eq_false hs] at hsz
    have ht : (mpOf W D H mn mf).solid x y z = true := by rw [Mp.solid_t]; rintro ⟨q0, q1, q2, q3, q4, q5, q6, q7⟩; exact hs q0
    rw [ht]
    clear ht
    go_enter Try.func20, Try.ntmps20
    go_wp2_with fail
    refine (hsz _).mono ?_; rintro e W1 ⟨rfl, b1⟩
    obtain ⟨c0, c1, c2, c3, c4⟩ := box5 b1
    go_wp2_with (first | (go_at_call 31; refine (gridWithin _ _ _).mono ?_; rintro e w' ⟨rfl, rfl⟩))
    go_ret
    exact ⟨rfl, ((Below.refl _ _).alloc (Nat.le_refl _) _).trans (b1.mono (by simp))⟩
theorem box3' {w w1 : World} {a b c : Int} {t : TypeId} (hb : Below (w.alloc (.cells #[.int .i64 a, .int .i64 b, .int .i64 c] t)).heap.size (w.alloc (.cells #[.int .i64 a, .int .i64 b, .int .i64 c] t)) w1) (k : Nat) {b' : Nat} (hk : b' < w.heap.size) {o : Nat} {v : Value} (h : w.cell? ⟨b', o, none⟩ = some v) : w1.cell? ⟨b', o, none⟩ = some v :=
  keepCell hb (by simp; omega) (Lib.cell?_alloc_some _ h)
end Go.Proofs.Ythcmcjklhcfenaa
