/- Layer 9 (grid): the contract of the document's own answer crossings. -/
import Derived.Test.YtfcaekboonnmaaaGrY
namespace Go.Proofs.Ytfcaekboonnmaaa
open Go.RowKit
set_option linter.unusedVariables false
set_option linter.unusedSimpArgs false
attribute [local go_sem ↓] Go.wp_at_zero Go.wp_at_succ

theorem refWithP (ps : List (Int × Int)) (x1 x2 : Int) (hp : ∀ e ∈ ps, PartOk e) (hx : PartOk (x1, x2)) (hne : ps ≠ []) (hn : ps.length ≤ 300) :
    ∃ qs, Ins ps (x1, x2) qs ∧ ∀ (p : Option Addr) (cap : Nat) (w : World), ArgP w p cap ps → Calls Try.prog 58 #[.slice p ps.length cap, .agg #[.int .i64 x1, .int .i64 x2]] w fun e w' => ∃ p' cap', e = .returned (.slice p' qs.length cap') ∧ ArgP w' p' cap' qs ∧ Below w.heap.size w w' := by
  obtain ⟨k, hk, hl, hnl⟩ := firstNot ps (x1, x2)
  by_cases h : ∃ hk : k < ps.length, ¬ LessP (x1, x2) ps[k]
  · obtain ⟨h1, h2⟩ := h
    exact ⟨ps, .there k h1 (hnl h1) h2, fun p cap w ha => refWith_at ps x1 x2 hp hx hne hn p cap w ha k hk hl hnl ps (.inl ⟨h1, h2, rfl⟩)⟩
  · have h' : ∀ hk : k < ps.length, LessP (x1, x2) ps[k] := fun hk => by
      by_cases e : LessP (x1, x2) ps[k]
      · exact e
      · exact absurd ⟨hk, e⟩ h
    exact ⟨_, .new k hk hl h', fun p cap w ha => refWith_at ps x1 x2 hp hx hne hn p cap w ha k hk hl hnl _ (.inr ⟨h', rfl⟩)⟩
/-- Parts, behind so many edges of an axis. -/
structure Good (ps : List (Int × Int)) (a b : Int) (k : Nat) (qs : List (Int × Int)) : Prop where
  ok : ∀ e ∈ qs, PartOk e
  up : Up qs
  sub : ∀ e ∈ ps, e ∈ qs
  most : qs.length ≤ ps.length + k
  least : ps.length ≤ qs.length
  hit : a ≠ b → ∀ j : Int, 0 ≤ j → j < k → ∀ v : Rat, 0 ≤ v → v ≤ 1 → posn a b v = (j : Rat) * 65536 → ∃ f ∈ qs, valP f = v
theorem posn_cross {a b j P Q : Int} {v : Rat} (h : (a < b ∧ P = j - a ∧ Q = b - a) ∨ (b < a ∧ P = a - j ∧ Q = a - b)) (hv : posn a b v = (j : Rat)) : v * Q = P := by
  unfold posn at hv
  rcases h with ⟨_, rfl, rfl⟩ | ⟨_, rfl, rfl⟩
  · rw [Rat.intCast_sub, Rat.intCast_sub]; grind
  · rw [Rat.intCast_sub, Rat.intCast_sub]; grind
theorem cross_in {P Q : Int} {v : Rat} (hQ : 0 < Q) (h : v * Q = P) (h0 : 0 ≤ v) (h1 : v ≤ 1) : 0 ≤ P ∧ P ≤ Q := by
  have hq : (0 : Rat) ≤ (Q : Rat) := by have := cast_le (show (0 : Int) ≤ Q by omega); simpa using this
  constructor
  · apply le_cast
    have := Rat.mul_nonneg h0 hq
    rw [← h]; simpa using this
  · apply le_cast
    have := Rat.mul_le_mul_of_nonneg_right h1 hq
    rw [← h]; simpa using this
theorem Good.skip {ps qs : List (Int × Int)} {a b P Q : Int} {k : Nat} (h : Good ps a b k qs) (hc : (a < b ∧ P = (k : Int) * 65536 - a ∧ Q = b - a) ∨ (b < a ∧ P = a - (k : Int) * 65536 ∧ Q = a - b)) (hn : ¬ (0 ≤ P ∧ P ≤ Q)) : Good ps a b (k + 1) qs :=
  ⟨h.ok, h.up, h.sub, by have := h.most; omega, h.least, fun hne j j0 j1 v v0 v1 hv => by
    by_cases e : j = (k : Int)
    · subst e
      have := posn_cross (j := (k : Int) * 65536) hc (by rw [hv]; simp)
      exact absurd (cross_in (by omega) this v0 v1) hn
    · exact h.hit hne j j0 (by omega) v v0 v1 hv⟩
theorem Good.ins {ps qs rs : List (Int × Int)} {a b P Q : Int} {k : Nat} (h : Good ps a b k qs) (hc : (a < b ∧ P = (k : Int) * 65536 - a ∧ Q = b - a) ∨ (b < a ∧ P = a - (k : Int) * 65536 ∧ Q = a - b)) (hx : PartOk (P, Q)) (hi : Ins qs (P, Q) rs) : Good ps a b (k + 1) rs := by
  obtain ⟨i1, i2, i3, ⟨f, i4, i5⟩, i6, i7⟩ := hi.ok h.ok hx h.up
  refine ⟨i1, i2, fun e he => i3 e (h.sub e he), by have := h.most; omega, by have := h.least; omega, fun hne j j0 j1 v v0 v1 hv => ?_⟩
  by_cases e : j = (k : Int)
  · subst e
    have h1 := posn_cross (j := (k : Int) * 65536) hc (by rw [hv]; simp)
    obtain ⟨h2, h3⟩ := valP_mul hx
    dsimp only at h2 h3
    refine ⟨f, i4, ?_⟩
    rw [i5]
    have : valP (P, Q) * Q = v * Q := by rw [h2, h1]
    have h4 : (valP (P, Q) - v) * Q = 0 := by grind
    rcases Rat.mul_eq_zero.1 h4 with h5 | h5
    · grind
    · grind
  · obtain ⟨f, hf, he⟩ := h.hit hne j j0 (by omega) v v0 v1 hv
    exact ⟨f, i3 f hf, he⟩
set_option maxHeartbeats 2000000 in
theorem refCross (ps : List (Int × Int)) (a b : Int) (ha : 0 ≤ a ∧ a < 2097152) (hb : 0 ≤ b ∧ b < 2097152) (hne : ps ≠ []) (hn : ps.length ≤ 200) (p : Option Addr) (cap : Nat) (w : World) (hA : ArgP w p cap ps) (hg : Good ps a b 0 ps) :
    Calls Try.prog 46 #[.slice p ps.length cap, .int .i64 a, .int .i64 b] w fun e w' => ∃ qs p' cap', e = .returned (.slice p' qs.length cap') ∧ ArgP w' p' cap' qs ∧ Below w.heap.size w w' ∧ Good ps a b 33 qs := by
  obtain ⟨a0, a1⟩ := ha; obtain ⟨b0, b1⟩ := hb
  have HG := hid hg; have HA := hid hA
  clear hg hA
  go_enter Try.func46, Try.ntmps46
  go_wp2
  go_loopw [0, 7] (fun v0 v7 wr => ∃ (k : Nat) (qs : List (Int × Int)) (p' : Option Addr) (cap' : Nat), v7 = .int .i64 (k : Int) ∧ v0 = .slice p' qs.length cap' ∧ k ≤ 33 ∧ Hid (ArgP wr p' cap' qs) ∧ Below w.heap.size w wr ∧ Hid (Good ps a b k qs)) (fun _ v7 _ => 33 - (intOf v7).toNat)
  case atStart => exact ⟨0, ps, p, cap, rfl, rfl, by omega, HA, Below.refl _ _, HG⟩
  case round =>
    obtain ⟨k, qs, p', cap', rfl, rfl, hk, hQ, hB, hG⟩ := hrel
    have hl : qs.length ≤ 300 := by have := hG.out.most; omega
    have hqne : qs ≠ [] := by
      intro e
      have := hG.out.least
      rw [e] at this
      exact hne (List.length_eq_zero_iff.1 (by simpa using this))
    by_cases hk2 : k < 33
    · have hk3 : (k : Int) ≤ 32 := by omega
      have k0 : (0 : Int) ≤ (k : Int) := by omega
      by_cases hab : a = b
      · have hfin := hid (show Good ps a b 33 qs from ⟨hG.out.ok, hG.out.up, hG.out.sub, by have := hG.out.most; omega, hG.out.least, fun h => absurd hab h⟩)
        have hab' : (a == b) = true := by simpa using hab
        go_wp2
        go_ret
        exact ⟨_, _, _, rfl, hQ.out, hB, hfin.out⟩
      · have hab' : (a == b) = false := by simpa using hab
        by_cases hlt : a < b
        · by_cases i0 : 0 ≤ (k : Int) * 65536 - a
          · by_cases i1 : (k : Int) * 65536 - a ≤ b - a
            · have hx : PartOk ((k : Int) * 65536 - a, b - a) := ⟨i0, i1, by dsimp only; omega, by dsimp only; omega⟩
              obtain ⟨rs, hi, hw⟩ := refWithP qs ((k : Int) * 65536 - a) (b - a) hG.out.ok hx hqne hl
              have hG2 := hid (hG.out.ins (P := (k : Int) * 65536 - a) (Q := b - a) (.inl ⟨hlt, rfl, rfl⟩) hx hi)
              have HW := hid hw
              clear hi hx hw
              go_wp2_with fail
              refine (HW.out _ _ _ hQ.out).mono ?_; rintro e V ⟨p2, cap2, rfl, h2, q2⟩
              have hB2 := btrans hB q2
              have H2 := hid h2
              clear h2 q2
              go_wp2
              exact ⟨⟨k + 1, rs, p2, cap2, by go_num, rfl, by omega, H2, hB2, hG2⟩, by simp [intOf]; omega⟩
            · have hG2 := hid (hG.out.skip (P := (k : Int) * 65536 - a) (Q := b - a) (.inl ⟨hlt, rfl, rfl⟩) (by omega))
              go_wp2
              exact ⟨⟨k + 1, qs, p', cap', by go_num, rfl, by omega, hQ, hB, hG2⟩, by simp [intOf]; omega⟩
          · have hG2 := hid (hG.out.skip (P := (k : Int) * 65536 - a) (Q := b - a) (.inl ⟨hlt, rfl, rfl⟩) (by omega))
            go_wp2
            exact ⟨⟨k + 1, qs, p', cap', by go_num, rfl, by omega, hQ, hB, hG2⟩, by simp [intOf]; omega⟩
        · by_cases i0 : 0 ≤ a - (k : Int) * 65536
          · by_cases i1 : a - (k : Int) * 65536 ≤ a - b
            · have hx : PartOk (a - (k : Int) * 65536, a - b) := ⟨i0, i1, by dsimp only; omega, by dsimp only; omega⟩
              obtain ⟨rs, hi, hw⟩ := refWithP qs (a - (k : Int) * 65536) (a - b) hG.out.ok hx hqne hl
              have hG2 := hid (hG.out.ins (P := a - (k : Int) * 65536) (Q := a - b) (.inr ⟨by omega, rfl, rfl⟩) hx hi)
              rw [show a - (k : Int) * 65536 = -((k : Int) * 65536 - a) by omega, show a - b = -(b - a) by omega] at hw
              have HW := hid hw
              clear hi hx hw
              go_wp2_with fail
              refine (HW.out _ _ _ hQ.out).mono ?_; rintro e V ⟨p2, cap2, rfl, h2, q2⟩
              have hB2 := btrans hB q2
              have H2 := hid h2
              clear h2 q2
              go_wp2
              exact ⟨⟨k + 1, rs, p2, cap2, by go_num, rfl, by omega, H2, hB2, hG2⟩, by simp [intOf]; omega⟩
            · have hG2 := hid (hG.out.skip (P := a - (k : Int) * 65536) (Q := a - b) (.inr ⟨by omega, rfl, rfl⟩) (by omega))
              go_wp2
              exact ⟨⟨k + 1, qs, p', cap', by go_num, rfl, by omega, hQ, hB, hG2⟩, by simp [intOf]; omega⟩
          · have hG2 := hid (hG.out.skip (P := a - (k : Int) * 65536) (Q := a - b) (.inr ⟨by omega, rfl, rfl⟩) (by omega))
            go_wp2
            exact ⟨⟨k + 1, qs, p', cap', by go_num, rfl, by omega, hQ, hB, hG2⟩, by simp [intOf]; omega⟩
    · obtain rfl : k = 33 := by omega
      go_wp2
      go_ret
      exact ⟨_, _, _, rfl, hQ.out, hB, hG.out⟩
end Go.Proofs.Ytfcaekboonnmaaa
