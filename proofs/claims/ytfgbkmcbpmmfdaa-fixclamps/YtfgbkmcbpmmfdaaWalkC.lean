/- Layer 1 (fix): the walk of the law FixClamps. -/
import Derived.Test.YtfgbkmcbpmmfdaaFixMath
import Derived.Test.YtfgbkmcbpmmfdaaFixE
import Derived.Deep.DeepCutAuto
namespace Go.Proofs.Ytfgbkmcbpmmfdaa
open Go.RowKit
set_option linter.unusedVariables false
attribute [local go_sem ↓] Go.wp_at_zero Go.wp_at_succ

theorem clamp_bd (x F : Int) (h : 0 ≤ F) : fclamp x F ≤ F ∧ -F ≤ fclamp x F := by unfold fclamp; split <;> (try split) <;> omega
theorem clamp_in {x F : Int} (h1 : x ≤ F) (h2 : -F ≤ x) : fclamp x F = x := by unfold fclamp; rw [if_neg (by omega), if_neg (by omega)]
theorem clamp_out {x F : Int} (h : fclamp x F = x) (hF : 0 ≤ F) : x ≤ F ∧ -F ≤ x := by unfold fclamp at h; split at h <;> (try split at h) <;> omega
theorem clamp_sign (x F : Int) (hF : 0 ≤ F) : fclamp x F = 0 ∨ (fclamp x F < 0 ↔ x < 0) := by unfold fclamp; split <;> (try split) <;> omega
theorem max0_run (n : Int) (ts : Array TypeId) (t : TypeId) (W : World) : (Builtin.max_ ts t #[.int .i64 n, .int .i64 0]).run Try.prog W = .ok (.int .i64 (max n 0)) W := by
  rw [run_max_int2]; congr 2; split <;> omega

/-- The sign, as the walk asks for it: the two ways through one test. -/
theorem sign_ways {c a : Int} (h : c = 0 ∨ (c < 0 ↔ a < 0)) : (c == 0) = true ∨ ((c == 0) = false ∧ decide (c < 0) = decide (a < 0)) := by
  by_cases e : c = 0
  · exact .inl (beq_iff_eq.2 e)
  · exact .inr ⟨beq_eq_false_iff_ne.2 e, decide_eq_decide.2 (h.resolve_left e)⟩
theorem keepV {w w2 W w3 : World} {a1 a2 a3 c1 c2 c3 : Int} (z : w.heap.size < w2.heap.size) (hb : Below W.heap.size W w3)
    (h : w2.heap.size < W.heap.size ∧ W.cell? ⟨w.heap.size, 0, none⟩ = some (.int .i64 a1) ∧ W.cell? ⟨w.heap.size, 1, none⟩ = some (.int .i64 a2) ∧ W.cell? ⟨w.heap.size, 2, none⟩ = some (.int .i64 a3) ∧ W.cell? ⟨w2.heap.size, 0, none⟩ = some (.int .i64 c1) ∧ W.cell? ⟨w2.heap.size, 1, none⟩ = some (.int .i64 c2) ∧ W.cell? ⟨w2.heap.size, 2, none⟩ = some (.int .i64 c3) ∧ Below w.heap.size w W) :
    w2.heap.size < w3.heap.size ∧ w3.cell? ⟨w.heap.size, 0, none⟩ = some (.int .i64 a1) ∧ w3.cell? ⟨w.heap.size, 1, none⟩ = some (.int .i64 a2) ∧ w3.cell? ⟨w.heap.size, 2, none⟩ = some (.int .i64 a3) ∧ w3.cell? ⟨w2.heap.size, 0, none⟩ = some (.int .i64 c1) ∧ w3.cell? ⟨w2.heap.size, 1, none⟩ = some (.int .i64 c2) ∧ w3.cell? ⟨w2.heap.size, 2, none⟩ = some (.int .i64 c3) ∧ Below w.heap.size w w3 := by
  obtain ⟨h0, h1, h2, h3, h4, h5, h6, h7⟩ := h
  exact ⟨Nat.lt_of_lt_of_le h0 hb.size, keepCell hb (by omega) h1, keepCell hb (by omega) h2, keepCell hb (by omega) h3, keepCell hb (by omega) h4, keepCell hb (by omega) h5, keepCell hb (by omega) h6, h7.trans (hb.mono (by omega))⟩
theorem startV {w w2 : World} {a1 a2 a3 c1 c2 c3 : Int} {t : TypeId} (z : w.heap.size < w2.heap.size) (v0 : w2.cell? ⟨w.heap.size, 0, none⟩ = some (.int .i64 a1)) (v1 : w2.cell? ⟨w.heap.size, 1, none⟩ = some (.int .i64 a2)) (v2 : w2.cell? ⟨w.heap.size, 2, none⟩ = some (.int .i64 a3)) (B : Below w.heap.size w w2) :
    w2.heap.size < (w2.alloc (.cells #[.int .i64 c1, .int .i64 c2, .int .i64 c3] t)).drew.heap.size ∧ (w2.alloc (.cells #[.int .i64 c1, .int .i64 c2, .int .i64 c3] t)).drew.cell? ⟨w.heap.size, 0, none⟩ = some (.int .i64 a1) ∧ (w2.alloc (.cells #[.int .i64 c1, .int .i64 c2, .int .i64 c3] t)).drew.cell? ⟨w.heap.size, 1, none⟩ = some (.int .i64 a2) ∧ (w2.alloc (.cells #[.int .i64 c1, .int .i64 c2, .int .i64 c3] t)).drew.cell? ⟨w.heap.size, 2, none⟩ = some (.int .i64 a3) ∧
    (w2.alloc (.cells #[.int .i64 c1, .int .i64 c2, .int .i64 c3] t)).drew.cell? ⟨w2.heap.size, 0, none⟩ = some (.int .i64 c1) ∧ (w2.alloc (.cells #[.int .i64 c1, .int .i64 c2, .int .i64 c3] t)).drew.cell? ⟨w2.heap.size, 1, none⟩ = some (.int .i64 c2) ∧ (w2.alloc (.cells #[.int .i64 c1, .int .i64 c2, .int .i64 c3] t)).drew.cell? ⟨w2.heap.size, 2, none⟩ = some (.int .i64 c3) ∧ Below w.heap.size w (w2.alloc (.cells #[.int .i64 c1, .int .i64 c2, .int .i64 c3] t)).drew := by
  have k : ∀ o v, w2.cell? ⟨w.heap.size, o, none⟩ = some v → (w2.alloc (.cells #[.int .i64 c1, .int .i64 c2, .int .i64 c3] t)).drew.cell? ⟨w.heap.size, o, none⟩ = some v := by
    intro o v h
    show (w2.alloc _).cell? _ = _
    rw [World.cell?_alloc_past _ _ _ z]; exact h
  exact ⟨by simp, k _ _ v0, k _ _ v1, k _ _ v2, by simp [go_sem], by simp [go_sem], by simp [go_sem], (B.alloc B.size _).drew⟩
set_option maxRecDepth 100000 in
set_option maxHeartbeats 4000000 in
theorem fixClamps_walk (a1 a2 a3 n : Int) (h1 : I64 a1) (h2 : I64 a2) (h3 : I64 a3) (hn : I64 n) (w : World) :
    Calls Try.prog 8 #[.agg #[.int .i64 a1, .int .i64 a2, .int .i64 a3], .int .i64 n] w fun e w' => e = .returned (.bool true) ∧ Below w.heap.size w w' := by
  have hk := max0_run n
  obtain ⟨F, hF⟩ : ∃ F, max n 0 = F := ⟨_, rfl⟩
  have F0 : 0 ≤ F := by omega
  have F1 : F ≤ 9223372036854775807 := by have := hn.hi; omega
  rw [hF] at hk
  have HF : Hid (max n 0 = F) := hF
  have HC : Hid (∀ a1 a2 a3 w, I64 a1 → I64 a2 → I64 a3 → Calls Try.prog 38 #[.agg #[.int .i64 a1, .int .i64 a2, .int .i64 a3], .int .i64 n] w fun e w' =>
      e = .returned (.agg #[.int .i64 (fclamp a1 F), .int .i64 (fclamp a2 F), .int .i64 (fclamp a3 F)]) ∧ Below w.heap.size w w') := by
    intro a1 a2 a3 w k1 k2 k3; have := fixVecClamp a1 a2 a3 n k1 k2 k3 hn w; rw [hF] at this; exact this
  clear hF
  go_enter Try.func8, Try.ntmps8
  go_wp2_with fail
  refine (shown_any _).mono ?_; rintro e w1 ⟨rfl, b1⟩
  have v0 := keepCell (o := 0) b1 (b := w.heap.size) (x := .int .i64 a1) (by simp) (by simp [go_sem])
  have v1 := keepCell (o := 1) b1 (b := w.heap.size) (x := .int .i64 a2) (by simp) (by simp [go_sem])
  have v2 := keepCell (o := 2) b1 (b := w.heap.size) (x := .int .i64 a3) (by simp) (by simp [go_sem])
  have z1 : w.heap.size < w1.heap.size := by have := b1.size; simp at this; omega
  have B1 : Below w.heap.size w w1 := ((Below.refl _ _).alloc (Nat.le_refl _) _).trans (b1.mono (by simp))
  clear b1
  go_wp2_with fail
  refine (HC.out a1 a2 a3 _ h1 h2 h3).mono ?_; rintro e w2 ⟨rfl, b2⟩
  have v0 := keepCell b2 z1 v0; have v1 := keepCell b2 z1 v1; have v2 := keepCell b2 z1 v2
  have z2 := Nat.lt_of_lt_of_le z1 b2.size
  have B2 := btrans B1 b2
  clear b2
  obtain ⟨g1, k1⟩ := clamp_bd a1 F F0; obtain ⟨g2, k2⟩ := clamp_bd a2 F F0; obtain ⟨g3, k3⟩ := clamp_bd a3 F F0
  have s1 := clamp_sign a1 F F0; have s2 := clamp_sign a2 F F0; have s3 := clamp_sign a3 F F0
  have i1 : fclamp (fclamp a1 F) F = fclamp a1 F := clamp_in g1 k1
  have i2 : fclamp (fclamp a2 F) F = fclamp a2 F := clamp_in g2 k2
  have i3 : fclamp (fclamp a3 F) F = fclamp a3 F := clamp_in g3 k3
  have IN1 : Hid ((a1 ≤ F ∧ -F ≤ a1) ↔ fclamp a1 F = a1) := ⟨fun h => clamp_in h.1 h.2, fun h => clamp_out h F0⟩
  have IN2 : Hid ((a2 ≤ F ∧ -F ≤ a2) ↔ fclamp a2 F = a2) := ⟨fun h => clamp_in h.1 h.2, fun h => clamp_out h F0⟩
  have IN3 : Hid ((a3 ≤ F ∧ -F ≤ a3) ↔ fclamp a3 F = a3) := ⟨fun h => clamp_in h.1 h.2, fun h => clamp_out h F0⟩
  generalize fclamp a1 F = c1 at *
  generalize fclamp a2 F = c2 at *
  generalize fclamp a3 F = c3 at *
  have I1 : Hid _ := i1; have I2 : Hid _ := i2; have I3 : Hid _ := i3
  have S1 : Hid _ := s1; have S2 : Hid _ := s2; have S3 : Hid _ := s3
  clear i1 i2 i3 s1 s2 s3
  have hc1 : I64 c1 := ⟨by omega, by omega⟩
  have hc2 : I64 c2 := ⟨by omega, by omega⟩
  have hc3 : I64 c3 := ⟨by omega, by omega⟩
  go_upto_region 5 with fail
  go_cut [9] (fun s W => s = .bool true ∧ W = (w2.alloc (.cells #[.int .i64 c1, .int .i64 c2, .int .i64 c3] 27)))
  case first =>
    rcases sign_ways S1.out with e1 | ⟨e1, d1⟩ <;> rcases sign_ways S2.out with e2 | ⟨e2, d2⟩ <;> rcases sign_ways S3.out with e3 | ⟨e3, d3⟩
    all_goals
      go_wp2
      go_meet
      case rel => exact ⟨rfl, rfl⟩
  case rest =>
    obtain ⟨rfl, rfl⟩ := hcut
    have hS := startV (c1 := c1) (c2 := c2) (c3 := c3) (t := 27) z2 v0 v1 v2 B2
    by_cases hst : ((a1 ≤ F ∧ -F ≤ a1) ∧ (a2 ≤ F ∧ -F ≤ a2)) ∧ (a3 ≤ F ∧ -F ≤ a3)
    · obtain ⟨⟨⟨p1, q1⟩, p2, q2⟩, p3, q3⟩ := hst
      obtain rfl := IN1.out.1 ⟨p1, q1⟩
      obtain rfl := IN2.out.1 ⟨p2, q2⟩
      obtain rfl := IN3.out.1 ⟨p3, q3⟩
      go_wp2
      go_region_held3 (fun W => w2.heap.size < W.heap.size ∧ W.cell? ⟨w.heap.size, 0, none⟩ = some (.int .i64 c1) ∧ W.cell? ⟨w.heap.size, 1, none⟩ = some (.int .i64 c2) ∧ W.cell? ⟨w.heap.size, 2, none⟩ = some (.int .i64 c3) ∧ W.cell? ⟨w2.heap.size, 0, none⟩ = some (.int .i64 c1) ∧ W.cell? ⟨w2.heap.size, 1, none⟩ = some (.int .i64 c2) ∧ W.cell? ⟨w2.heap.size, 2, none⟩ = some (.int .i64 c3) ∧ Below w.heap.size w W)
        (first | assumption | exact keepV z2 (by assumption) (by assumption))
        ((go_at_call 38; refine (HC.out c1 c2 c3 _ hc1 hc2 hc3).mono ?_; rintro e w3 ⟨rfl, b3⟩; rw [I1.out, I2.out, I3.out]))
      go_wp2
      go_ret
      exact ⟨rfl, by go_split_ands; assumption⟩
    · have HST : Hid _ := hst
      clear hst
      go_upto_region 6 with fail
      go_cut [10] (fun s W => s = .bool false ∧ W = (w2.alloc (.cells #[.int .i64 c1, .int .i64 c2, .int .i64 c3] 27)))
      case first =>
        go_wp2
        all_goals go_meet
        all_goals
          case rel => first | exact ⟨rfl, rfl⟩ | (refine ⟨?_, rfl⟩; simp only [Value.bool.injEq, decide_eq_false_iff_not]; intro h6; exact HST.out ⟨⟨⟨by omega, by omega⟩, by omega, by omega⟩, by omega, h6⟩)
      case rest =>
        obtain ⟨rfl, rfl⟩ := hcut
        have hq := vecEq_run c1 c2 c3 a1 a2 a3 false (by
          symm; refine decide_eq_false fun h => HST.out ?_
          obtain ⟨e1, e2, e3⟩ := h
          exact ⟨⟨IN1.out.2 e1, IN2.out.2 e2⟩, IN3.out.2 e3⟩)
        go_wp2
        go_region_held3 (fun W => w2.heap.size < W.heap.size ∧ W.cell? ⟨w.heap.size, 0, none⟩ = some (.int .i64 a1) ∧ W.cell? ⟨w.heap.size, 1, none⟩ = some (.int .i64 a2) ∧ W.cell? ⟨w.heap.size, 2, none⟩ = some (.int .i64 a3) ∧ W.cell? ⟨w2.heap.size, 0, none⟩ = some (.int .i64 c1) ∧ W.cell? ⟨w2.heap.size, 1, none⟩ = some (.int .i64 c2) ∧ W.cell? ⟨w2.heap.size, 2, none⟩ = some (.int .i64 c3) ∧ Below w.heap.size w W)
        (first | assumption | exact keepV z2 (by assumption) (by assumption))
        ((go_at_call 38; refine (HC.out c1 c2 c3 _ hc1 hc2 hc3).mono ?_; rintro e w3 ⟨rfl, b3⟩; rw [I1.out, I2.out, I3.out]))
        go_wp2
        go_ret
        exact ⟨rfl, by go_split_ands; assumption⟩
end Go.Proofs.Ytfgbkmcbpmmfdaa
