/- Layer 1's own answers (embrasureref01): Div. -/
import Derived.Test.YtfgbkmcbpmmfdaaRefK
namespace Go.Proofs.Ytfgbkmcbpmmfdaa
open Go.RowKit
set_option linter.unusedVariables false
attribute [local go_sem ↓] Go.wp_at_zero Go.wp_at_succ

/-- Two boxes that are read. -/
def Two (w1 w2 : World) (s t : Bool) (x y : Value) (W : World) : Prop :=
  w2.heap.size < W.heap.size ∧ W.cell? ⟨w1.heap.size, 0, none⟩ = some (.bool s) ∧ W.cell? ⟨w1.heap.size, 1, none⟩ = some x ∧ W.cell? ⟨w2.heap.size, 0, none⟩ = some (.bool t) ∧ W.cell? ⟨w2.heap.size, 1, none⟩ = some y ∧ Below w2.heap.size w2 W
theorem Two.keep {w1 w2 W W1 : World} {s t : Bool} {x y : Value} (hlt : w1.heap.size < w2.heap.size) (hb : Below W.heap.size W W1) (h : Two w1 w2 s t x y W) : Two w1 w2 s t x y W1 := by
  obtain ⟨h0, h1, h2, h3, h4, h5⟩ := h
  exact ⟨Nat.lt_of_lt_of_le h0 hb.size, keepCell hb (by omega) h1, keepCell hb (by omega) h2, keepCell hb h0 h3, keepCell hb h0 h4, h5.trans (hb.mono (by omega))⟩
theorem Two.start {w1 w2 : World} {s t : Bool} {x y : Value} {T : TypeId} (h : Below (w1.alloc (.cells #[.bool s, x] T)).heap.size (w1.alloc (.cells #[.bool s, x] T)) w2) : w1.heap.size < w2.heap.size ∧ Two w1 w2 s t x y (w2.alloc (.cells #[.bool t, y] T)).drew := by
  have hs := h.size
  simp only [World.size_alloc] at hs
  have hlt : w1.heap.size < w2.heap.size := by omega
  have c0 : w2.cell? ⟨w1.heap.size, 0, none⟩ = some (.bool s) := keepCell h (by simp) (by simp [go_sem])
  have c1 : w2.cell? ⟨w1.heap.size, 1, none⟩ = some x := keepCell h (by simp) (by simp [go_sem])
  have hB : Below w2.heap.size w2 (w2.alloc (.cells #[.bool t, y] T)).drew := ((Below.refl _ _).alloc (Nat.le_refl _) _).drew
  exact ⟨hlt, by simp, keepCell hB hlt c0, keepCell hB hlt c1, by simp [go_sem], by simp [go_sem], hB⟩
theorem Two.alloc {w1 w2 W : World} {s t : Bool} {x y : Value} (hlt : w1.heap.size < w2.heap.size) (h : Two w1 w2 s t x y W) (o : Obj) : Two w1 w2 s t x y (W.alloc o) := h.keep hlt ((Below.refl _ _).alloc (Nat.le_refl _) _)
theorem Two.grown {w1 w2 W w3 : World} {s t : Bool} {x y : Value} {o : Obj} {r : Option Nat} (hlt : w1.heap.size < w2.heap.size) (h : Two w1 w2 s t x y W) (hg : (W.alloc o).grownBy w3 r) (hr : r = some W.heap.size) : Two w1 w2 s t x y w3 := by
  refine h.keep hlt (Below.grown ((Below.refl _ _).alloc (Nat.le_refl _) _) hg (by simp) (fun k hk => by rw [hr] at hk; have := Option.some.inj hk; omega))
theorem lin_fun (ys : List Nat) : Hid ((fun x : Nat => x * val ys) = fun x => if false then x * x else x * val ys) := (by simp : (fun x : Nat => x * val ys) = fun x => if false then x * x else x * val ys)
theorem div_fin {a b R : Int} {xs ys zs : List Nat} {s t : Bool} (h0 : a ≠ 0) (h1 : b ≠ 0) (hR : fdiv a b = R) (hx : ((val xs : Nat) : Int) = mag a) (hy : ((val ys : Nat) : Int) = mag b) (hz : val zs = 65536 * val xs) (hs : decide (a < 0) = s) (ht : decide (b < 0) = t) :
    ∃ G : Nat, grGo (fun x => x * val ys) (val zs) 64 0 = G ∧ ((9223372036854775807 < G ∧ R = rend (s != t)) ∨ (G ≤ 9223372036854775807 ∧ R = if (s != t) then -(G : Int) else (G : Int))) := by
  have hB : 0 < val ys := by
    have : 0 < mag b := by unfold mag; split <;> omega
    omega
  obtain ⟨q1, q2⟩ := gr_quo (N := val zs) hB
  unfold fdiv at hR
  rw [if_neg h0, if_neg h1, show apartB a b = (s != t) from by rw [← hs, ← ht]; rfl, ← hx, ← hy, show ((val xs : Nat) : Int) * 65536 / ((val ys : Nat) : Int) = ((val zs / val ys : Nat) : Int) from by rw [hz, Int.natCast_ediv, Int.natCast_mul, Int.mul_comm]; rfl] at hR
  generalize val zs / val ys = q at *
  refine ⟨_, rfl, ?_⟩
  by_cases hq : q < 18446744073709551616
  · rw [q1 hq]
    by_cases hb : 9223372036854775807 < q
    · exact .inl ⟨hb, by rw [← hR]; exact numb_rend _ (by omega)⟩
    · refine .inr ⟨by omega, ?_⟩
      rw [← hR]
      cases (s != t)
      · rw [numb_f]; exact sat_id ⟨by omega, by omega⟩
      · rw [numb_t]; exact sat_id ⟨by omega, by omega⟩
  · rw [q2 (by omega)]
    exact .inl ⟨by omega, by rw [← hR]; exact numb_rend _ (by omega)⟩
set_option maxHeartbeats 1000000 in
theorem refDiv (a b : Int) (ha : I64 a) (hb : I64 b) (w : World) :
    Calls Try.prog 25 #[.int .i64 a, .int .i64 b] w fun e w' => e = .returned (.int .i64 (fdiv a b)) ∧ Below w.heap.size w w' := by
  obtain ⟨i0, hi, hz0, hz1, hz2⟩ := info_parts info_u64
  obtain ⟨R, hR⟩ : ∃ R, fdiv a b = R := ⟨_, rfl⟩
  have HR : Hid _ := hR
  rw [hR]
  by_cases h0 : a = 0
  · subst h0
    have hr : R = 0 := by rw [← hR]; rfl
    subst hr
    clear hR
    go_enter Try.func25, Try.ntmps25
    go_wp2
    go_ret
    exact ⟨rfl, Below.refl _ _⟩
  by_cases h1 : b = 0
  · subst h1
    have hr : R = rend (decide (a < 0)) := by
      rw [← hR]; unfold fdiv rend; rw [if_neg h0, if_pos rfl]
      by_cases h : a < 0
      · rw [decide_eq_true h, if_pos h]; rfl
      · rw [decide_eq_false h, if_neg h]; rfl
    have HE : Hid _ := hr
    clear hR hr
    have hne : (a == 0) = false := beq_eq_false_iff_ne.2 h0
    go_enter Try.func25, Try.ntmps25
    go_wp2_with fail
    refine (refEnd _ _).mono ?_; rintro e W1 ⟨rfl, hw1⟩
    rw [hw1]
    go_wp2
    go_ret
    exact ⟨by rw [HE.out]; rfl, Below.refl _ _⟩
  have hne : (a == 0) = false := beq_eq_false_iff_ne.2 h0
  have hnb : (b == 0) = false := beq_eq_false_iff_ne.2 h1
  clear hR
  go_enter Try.func25, Try.ntmps25
  go_wp2_with fail
  refine (refOf a ha _).mono ?_; rintro e w1 ⟨⟨c1, k1, xs, rfl, r1, v1, m1, t1, l1, f1⟩, b1⟩
  obtain ⟨s, hs⟩ : ∃ s, decide (a < 0) = s := ⟨_, rfl⟩
  have HS : Hid _ := hs
  rw [hs]
  have M1 : Hid _ := m1
  clear hs v1 m1 f1
  go_wp2_with fail
  refine (refOf b hb _).mono ?_; rintro e w2 ⟨⟨c2, k2, ys, rfl, r2, v2, m2, t2, l2, f2⟩, b2⟩
  obtain ⟨t, hs⟩ : ∃ t, decide (b < 0) = t := ⟨_, rfl⟩
  have HT : Hid _ := hs
  rw [hs]
  have M2 : Hid _ := m2
  clear hs v2 m2 f2
  have hx0 : 0 < xs.length := by
    rcases Nat.eq_zero_or_pos xs.length with h | h
    · have : xs = [] := List.eq_nil_of_length_eq_zero h
      subst this
      have e : ((0 : Nat) : Int) = mag a := M1.out
      unfold mag at e
      split at e <;> omega
    · exact h
  obtain ⟨c, o, rfl, _, _⟩ := r1.at hx0
  obtain ⟨hlt, hst⟩ := Two.start (t := t) (y := .slice c2 ys.length k2) b2
  have hb12 : Below w1.heap.size w1 w2 := ((Below.refl _ _).alloc (Nat.le_refl _) _).trans (b2.mono (by simp))
  have hxr := (r1.keep hb12).keep hst.2.2.2.2.2
  clear b2
  go_wp2_with fail
  have hst' := hst
  unfold Two at hst
  go_region_held3 (fun W => w2.heap.size < W.heap.size ∧ W.cell? ⟨w1.heap.size, 0, none⟩ = some (.bool s) ∧ W.cell? ⟨w1.heap.size, 1, none⟩ = some (.slice (some ⟨c, o, none⟩) xs.length k1) ∧ W.cell? ⟨w2.heap.size, 0, none⟩ = some (.bool t) ∧ W.cell? ⟨w2.heap.size, 1, none⟩ = some (.slice c2 ys.length k2) ∧ Below w2.heap.size w2 W)
    (first | assumption | exact Two.keep hlt (by assumption) (by assumption) | exact Two.alloc hlt (by assumption) _)
    (first
      | (refine step_append_lies _ (by rfl) _ _ 41 (by rfl) (w2.heap.size) 47 i0 (.int .u64 0) 1 8 Try.underlying41 hi hz0 hz1 hz2 rfl (by decide) _ _ _ (by rfl) (own1 _ _ (w2.heap.size + 1) (by simp) (by simp)) ⟨c, o, none⟩ xs.length k1 (vals xs) (by rfl) (vals_length xs) ((hxr.keep ((Below.refl _ _).alloc (Nat.le_refl _) _)).news) (vals_one xs) hx0 (by unfold maxLen; omega) (by omega) (by simp; omega) (w2.heap.size + 1 + 1) (by simp) ?_; intro g cap w3 hown' hgrow hat hglt; clear hat hglt; obtain ⟨a3, k3, zs, e3, r3, t3, z3⟩ := row_of_owns0 hown' r1.digits t1 hx0; rw [e3]; clear hown' e3; have hS3 := Two.grown hlt hst' hgrow (by simp [Value.ownBlock]); clear hgrow)
      | (go_at_call 53; refine (refGreatest false c2 a3 k2 k3 ys zs _ (r2.keep (by go_split_ands; assumption)) r3 (by omega) t3 (fun x => x * val ys) (lin_fun ys)).mono ?_; rintro e w4 ⟨rfl, b4⟩))
  rename_i hH
  obtain ⟨_, d0, _, d1, _, d2⟩ := hH
  have hB := btrans (btrans b1 hb12) d2
  obtain ⟨G, hG, hcase⟩ := div_fin h0 h1 HR.out M1.out M2.out z3.out HS.out HT.out
  rw [hG]
  have HC : Hid _ := hcase
  clear hG hcase hst hst' hS3 b4 d2 hxr b1 hb12 r1 r2 r3
  by_cases hg : 9223372036854775807 < G
  · have hr : R = rend (s != t) := by
      rcases HC.out with ⟨_, h⟩ | ⟨h, _⟩
      · exact h
      · omega
    have HE : Hid _ := hr
    have hg' : (9223372036854775807 : Int) < (G : Int) := by omega
    clear hr
    go_wp2_with fail
    refine (refEnd (s != t) _).mono ?_; rintro e W1 ⟨rfl, hw1⟩
    rw [hw1]
    go_wp2
    go_ret
    exact ⟨by rw [HE.out]; rfl, hB⟩
  · have hr : R = if (s != t) then -(G : Int) else (G : Int) := by
      rcases HC.out with ⟨h, _⟩ | ⟨_, h⟩
      · omega
      · exact h
    have HE : Hid _ := hr
    have hg' : ¬ (9223372036854775807 : Int) < (G : Int) := by omega
    clear hr
    cases s <;> cases t
    all_goals
      go_wp2
      go_ret
      exact ⟨ret_int HE.out.symm, hB⟩
end Go.Proofs.Ytfgbkmcbpmmfdaa
