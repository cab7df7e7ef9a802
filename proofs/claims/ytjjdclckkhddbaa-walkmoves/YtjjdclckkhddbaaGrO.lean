/- Layer 9 (grid): the contracts of the document's own answers Sized, Cell, Solid, meets. -/
import Derived.Test.YtjjdclckkhddbaaGwA
import Derived.Test.YtjjdclckkhddbaaGsR
namespace Go.Proofs.Ytjjdclckkhddbaa
open Go.RowKit
set_option linter.unusedVariables false
set_option linter.unusedSimpArgs false
attribute [local go_sem ↓] Go.wp_at_zero Go.wp_at_succ

set_option maxHeartbeats 1000000 in
theorem refSized (W D H : Int) (mp : Option Addr) (mn mc : Nat) (mf : Nat → Bool) (sp : Option Addr) (sn sc : Nat) (w : World) :
    Calls Try.prog 46 #[.agg #[.int .i64 W, .int .i64 D, .int .i64 H, .slice mp mn mc, .slice sp sn sc]] w fun e w' => e = .returned (.bool (decide (mpOf W D H mn mf).Sized)) ∧ Below w.heap.size w w' := by
  have hn := fun ts t V => min3 (a := W) (b := D) (c := H) ts t V
  have hx := fun ts t V => max3 (a := W) (b := D) (c := H) ts t V
  obtain ⟨p, hp⟩ : ∃ p, min (min W D) H = p := ⟨_, rfl⟩
  obtain ⟨q, hq⟩ : ∃ q, max (max W D) H = q := ⟨_, rfl⟩
  rw [hp] at hn
  rw [hq] at hx
  by_cases h1 : p < 1
  · have e1 := sized_no (n := mn) (f := mf) (W := W) (D := D) (H := H) (by omega)
    rw [← e1]
    clear e1 hp hq
    go_enter Try.func46, Try.ntmps46
    go_wp2
    go_ret
    exact ⟨rfl, (Below.refl _ _).alloc (Nat.le_refl _) _⟩
  · by_cases h2 : 32 < q
    · have e1 := sized_no (n := mn) (f := mf) (W := W) (D := D) (H := H) (by omega)
      rw [← e1]
      clear e1 hp hq
      go_enter Try.func46, Try.ntmps46
      go_wp2
      go_ret
      exact ⟨rfl, (Below.refl _ _).alloc (Nat.le_refl _) _⟩
    · obtain ⟨_, _, m1, m2⟩ := sized_mul (W := W) (D := D) (H := H) ⟨by omega, by omega⟩ ⟨by omega, by omega⟩ ⟨by omega, by omega⟩
      have a1 : 1 ≤ W := by omega
      have a2 : W ≤ 32 := by omega
      have a3 : 1 ≤ D := by omega
      have a4 : D ≤ 32 := by omega
      have a5 : 1 ≤ H := by omega
      have a6 : H ≤ 32 := by omega
      clear hp hq
      go_enter Try.func46, Try.ntmps46
      go_wp2
      go_ret
      refine ⟨ret_bool ?_, (Below.refl _ _).alloc (Nat.le_refl _) _⟩
      simp [Mp.Sized, mpOf, a1, a2, a3, a4, a5, a6]
      try exact Bool.eq_iff_iff.2 (by simp)
set_option maxHeartbeats 1000000 in
theorem refSolid (W D H : Int) (mp : Option Addr) (mn mc : Nat) (mf : Nat → Bool) (sp : Option Addr) (sn sc : Nat) (x y z : Int) (w : World) (hm : Arg w mp mn mc fun i => .bool (mf i)) :
    Calls Try.prog 48 #[.agg #[.int .i64 W, .int .i64 D, .int .i64 H, .slice mp mn mc, .slice sp sn sc], .int .i64 x, .int .i64 y, .int .i64 z] w fun e w' => e = .returned (.bool ((mpOf W D H mn mf).solid x y z)) ∧ Below w.heap.size w w' := by
  have hsz := fun W' => refSized W D H mp mn mc mf sp sn sc W'
  have hle := hm.le; have hmost := hm.most
  have hn := fun ts t V => min3 (a := x) (b := y) (c := z) ts t V
  obtain ⟨p, hp⟩ : ∃ p, min (min x y) z = p := ⟨_, rfl⟩
  rw [hp] at hn
  unfold maxLen at hmost
  by_cases hs : (mpOf W D H mn mf).Sized
  · rw [decide_eq_true hs] at hsz
    by_cases h0 : p < 0
    · have ht : (mpOf W D H mn mf).solid x y z = true := by rw [Mp.solid_t]; rintro ⟨q0, q1, q2, q3, q4, q5, q6, q7⟩; omega
      rw [ht]
      clear ht hp
      go_enter Try.func48, Try.ntmps48
      go_wp2_with fail
      refine (hsz _).mono ?_; rintro e W1 ⟨rfl, b1⟩
      obtain ⟨c0, c1, c2, c3, c4⟩ := box5 b1
      go_wp2
      go_ret
      exact ⟨rfl, ((Below.refl _ _).alloc (Nat.le_refl _) _).trans (b1.mono (by simp))⟩
    · by_cases hx : W ≤ x
      · have ht : (mpOf W D H mn mf).solid x y z = true := by rw [Mp.solid_t]; rintro ⟨q0, q1, q2, q3, q4, q5, q6, q7⟩; dsimp only [mpOf] at *; omega
        rw [ht]
        clear ht hp
        go_enter Try.func48, Try.ntmps48
        go_wp2_with fail
        refine (hsz _).mono ?_; rintro e W1 ⟨rfl, b1⟩
        obtain ⟨c0, c1, c2, c3, c4⟩ := box5 b1
        go_wp2
        go_ret
        exact ⟨rfl, ((Below.refl _ _).alloc (Nat.le_refl _) _).trans (b1.mono (by simp))⟩
      · by_cases hy : D ≤ y
        · have ht : (mpOf W D H mn mf).solid x y z = true := by rw [Mp.solid_t]; rintro ⟨q0, q1, q2, q3, q4, q5, q6, q7⟩; dsimp only [mpOf] at *; omega
          rw [ht]
          clear ht hp
          go_enter Try.func48, Try.ntmps48
          go_wp2_with fail
          refine (hsz _).mono ?_; rintro e W1 ⟨rfl, b1⟩
          obtain ⟨c0, c1, c2, c3, c4⟩ := box5 b1
          go_wp2
          go_ret
          exact ⟨rfl, ((Below.refl _ _).alloc (Nat.le_refl _) _).trans (b1.mono (by simp))⟩
        · by_cases hz : H ≤ z
          · have ht : (mpOf W D H mn mf).solid x y z = true := by rw [Mp.solid_t]; rintro ⟨q0, q1, q2, q3, q4, q5, q6, q7⟩; dsimp only [mpOf] at *; omega
            rw [ht]
            clear ht hp
            go_enter Try.func48, Try.ntmps48
            go_wp2_with fail
            refine (hsz _).mono ?_; rintro e W1 ⟨rfl, b1⟩
            obtain ⟨c0, c1, c2, c3, c4⟩ := box5 b1
            go_wp2
            go_ret
            exact ⟨rfl, ((Below.refl _ _).alloc (Nat.le_refl _) _).trans (b1.mono (by simp))⟩
          · obtain ⟨k, hk, hke, hsol, w1, w2, w3, w4⟩ := solid_at (M := (mpOf W D H mn mf)) (x := x) (y := y) (z := z) hs (by dsimp only [mpOf]; omega) (by dsimp only [mpOf]; omega) (by dsimp only [mpOf]; omega)
            dsimp only [mpOf] at hk hke hsol w1 w2 w3
            obtain ⟨b, o, rfl, hbl, hc⟩ := hm.at hk
            rw [show ((mpOf W D H mn mf)).solid x y z = mf k from hsol]
            have e0 : D * z = z * D := Int.mul_comm _ _
            have e2 : y + z * D = z * D + y := Int.add_comm _ _
            have e3 : W * (z * D + y) = (z * D + y) * W := Int.mul_comm _ _
            have e4 : x + (z * D + y) * W = (k : Int) := by omega
            clear hsol hp
            go_enter Try.func48, Try.ntmps48
            go_wp2_with fail
            refine (hsz _).mono ?_; rintro e W1 ⟨rfl, b1⟩
            obtain ⟨c0, c1, c2, c3, c4⟩ := box5 b1
            have ck : W1.cell? ⟨b, o + k, none⟩ = some (.bool (mf k)) := keepCell b1 (by simp; omega) (Lib.cell?_alloc_some _ (hc k hk))
            go_wp2
            go_ret
            exact ⟨rfl, ((Below.refl _ _).alloc (Nat.le_refl _) _).trans (b1.mono (by simp))⟩
  · rw [decide_eq_false hs] at hsz
    have ht : (mpOf W D H mn mf).solid x y z = true := by rw [Mp.solid_t]; rintro ⟨q0, q1, q2, q3, q4, q5, q6, q7⟩; exact hs q0
    rw [ht]
    clear ht hp
    go_enter Try.func48, Try.ntmps48
    go_wp2_with fail
    refine (hsz _).mono ?_; rintro e W1 ⟨rfl, b1⟩
    obtain ⟨c0, c1, c2, c3, c4⟩ := box5 b1
    go_wp2
    go_ret
    exact ⟨rfl, ((Below.refl _ _).alloc (Nat.le_refl _) _).trans (b1.mono (by simp))⟩
theorem refMeets (c lo hi : Int) (hl : I64 lo) (hh : I64 hi) (hlt : lo < hi) (h0 : 0 ≤ c) (h1 : c ≤ 32) (w : World) :
    Calls Try.prog 47 #[.int .i64 c, .int .i64 lo, .int .i64 hi] w fun e w' => e = .returned (.bool (decide (lo / 65536 ≤ c ∧ c < (hi - 1) / 65536 + 1))) ∧ w' = w := by
  have i0 := hl.lo; have i1 := hl.hi; have i2 := hh.lo; have i3 := hh.hi
  have hx := fun ts t V => max2 (a := lo) (b := c * 65536) ts t V
  have hn := fun ts t V => min2 (a := hi - 1) (b := c * 65536 + 65535) ts t V
  obtain ⟨p, hp⟩ : ∃ p, max lo (c * 65536) = p := ⟨_, rfl⟩
  obtain ⟨q, hq⟩ : ∃ q, min (hi - 1) (c * 65536 + 65535) = q := ⟨_, rfl⟩
  rw [hp] at hx
  rw [hq] at hn
  have e : decide (lo / 65536 ≤ c ∧ c < (hi - 1) / 65536 + 1) = decide (p ≤ q) := by
    apply decide_eq_decide.2
    omega
  rw [e]
  clear e hp hq
  go_enter Try.func47, Try.ntmps47
  go_wp2
  go_ret
  exact ⟨rfl, rfl⟩
end Go.Proofs.Ytjjdclckkhddbaa
