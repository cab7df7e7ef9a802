/- Layer 9 (grid): what follows of sight and of boxes, as plain mathematics. No Go in this text. -/
import Derived.Test.YthcmcjklhcfenaaGrN
import Derived.Test.YthcmcjklhcfenaaGrC
namespace Go.Proofs.Ythcmcjklhcfenaa
open Go.RowKit
set_option linter.unusedVariables false

theorem posn_between {a b : Int} {s : Rat} (h0 : 0 ≤ s) (h1 : s ≤ 1) : ((min a b : Int) : Rat) ≤ posn a b s ∧ posn a b s ≤ ((max a b : Int) : Rat) := by
  rcases Int.le_total a b with h | h
  · have k0 := posn_mono h h0; have k1 := posn_mono h h1
    rw [posn_0] at k0; rw [posn_1] at k1
    rw [Int.min_eq_left h, Int.max_eq_right h]; exact ⟨k0, k1⟩
  · have k0 := posn_anti h h0; have k1 := posn_anti h h1
    rw [posn_0] at k0; rw [posn_1] at k1
    rw [Int.min_eq_right h, Int.max_eq_left h]; exact ⟨k1, k0⟩
theorem InC.ge {c n : Int} {v : Rat} (h : InC c v) (k : (n : Rat) ≤ v) : n / 65536 ≤ c := by
  obtain ⟨h0, h1⟩ := h
  have e : (n : Rat) < ((c + 1 : Int) : Rat) * 65536 := by grind
  have : n < (c + 1) * 65536 := lt_cast (by grind)
  omega
theorem InC.le {c n : Int} {v : Rat} (h : InC c v) (k : v ≤ (n : Rat)) : c ≤ n / 65536 := by
  obtain ⟨h0, h1⟩ := h
  have : c * 65536 ≤ n := le_cast (by grind)
  omega
theorem InC.between {a b c : Int} {s : Rat} (h0 : 0 ≤ s) (h1 : s ≤ 1) (h : InC c (posn a b s)) : min (a / 65536) (b / 65536) ≤ c ∧ c ≤ max (a / 65536) (b / 65536) := by
  obtain ⟨k0, k1⟩ := posn_between (a := a) (b := b) h0 h1
  have := h.ge k0; have := h.le k1
  omega
/-- All cells between both ends'. -/
def Mp.Span (M : Mp) (a b : V3) : Prop := ∀ x y z : Int, min (a.x / 65536) (b.x / 65536) ≤ x → x ≤ max (a.x / 65536) (b.x / 65536) → min (a.y / 65536) (b.y / 65536) ≤ y → y ≤ max (a.y / 65536) (b.y / 65536) → min (a.z / 65536) (b.z / 65536) ≤ z → z ≤ max (a.z / 65536) (b.z / 65536) → M.Free x y z
theorem Mp.Span.sees {M : Mp} {a b : V3} (h : M.Span a b) : M.Sees a b := fun s h0 h1 x y z hx hy hz =>
  h x y z (hx.between h0 h1).1 (hx.between h0 h1).2 (hy.between h0 h1).1 (hy.between h0 h1).2 (hz.between h0 h1).1 (hz.between h0 h1).2
theorem Mp.Sees.ends {M : Mp} {a b : V3} (h : M.Sees a b) : M.Free (a.x / 65536) (a.y / 65536) (a.z / 65536) ∧ M.Free (b.x / 65536) (b.y / 65536) (b.z / 65536) := by
  have e0 := h 0 (by grind) (by grind)
  have e1 := h 1 (by grind) (by grind)
  unfold Mp.At at e0 e1
  simp only [posn_0] at e0
  simp only [posn_1] at e1
  exact ⟨e0 _ _ _ (InC.of _) (InC.of _) (InC.of _), e1 _ _ _ (InC.of _) (InC.of _) (InC.of _)⟩
theorem posn_turn (a b : Int) (s : Rat) : posn a b s = posn b a (1 - s) := by unfold posn; grind
theorem Mp.Sees.turn {M : Mp} {a b : V3} (h : M.Sees a b) : M.Sees b a := fun s h0 h1 x y z hx hy hz => by
  rw [posn_turn] at hx hy hz
  exact h (1 - s) (by grind) (by grind) x y z hx hy hz
theorem Mp.sees_self {M : Mp} {a : V3} : M.Sees a a ↔ M.Free (a.x / 65536) (a.y / 65536) (a.z / 65536) := by
  constructor
  · intro h; exact h.ends.1
  · intro h
    refine Mp.Span.sees fun x y z h1 h2 h3 h4 h5 h6 => ?_
    have e1 : x = a.x / 65536 := by omega
    have e2 : y = a.y / 65536 := by omega
    have e3 : z = a.z / 65536 := by omega
    rw [e1, e2, e3]; exact h
theorem posn_left {a b c : Int} (h : a + b = 2 * c) (s : Rat) : posn a c s = posn a b (s / 2) := by
  have e : (a : Rat) + b = 2 * c := by
    have : ((a + b : Int) : Rat) = ((2 * c : Int) : Rat) := by rw [h]
    grind
  unfold posn; grind
theorem posn_right {a b c : Int} (h : a + b = 2 * c) (s : Rat) : posn c b s = posn a b ((1 + s) / 2) := by
  have e : (a : Rat) + b = 2 * c := by
    have : ((a + b : Int) : Rat) = ((2 * c : Int) : Rat) := by rw [h]
    grind
  unfold posn; grind
theorem Mp.halves {M : Mp} {a b c : V3} (hx : a.x + b.x = 2 * c.x) (hy : a.y + b.y = 2 * c.y) (hz : a.z + b.z = 2 * c.z) : M.Sees a b ↔ M.Sees a c ∧ M.Sees c b := by
  constructor
  · intro h
    refine ⟨fun s h0 h1 => ?_, fun s h0 h1 => ?_⟩
    · have := h (s / 2) (by grind) (by grind)
      unfold Mp.At at this ⊢
      rw [posn_left hx, posn_left hy, posn_left hz]; exact this
    · have := h ((1 + s) / 2) (by grind) (by grind)
      unfold Mp.At at this ⊢
      rw [posn_right hx, posn_right hy, posn_right hz]; exact this
  · rintro ⟨h, k⟩ s h0 h1
    by_cases e : s ≤ 1 / 2
    · have := h (2 * s) (by grind) (by grind)
      unfold Mp.At at this ⊢
      rw [posn_left hx, posn_left hy, posn_left hz] at this
      rw [show s = 2 * s / 2 by grind]; exact this
    · have := k (2 * s - 1) (by grind) (by grind)
      unfold Mp.At at this ⊢
      rw [posn_right hx, posn_right hy, posn_right hz] at this
      rw [show s = (1 + (2 * s - 1)) / 2 by grind]; exact this
theorem Mp.Sees.mono {M N : Mp} (hf : ∀ x y z, N.Free x y z → M.Free x y z) {a b : V3} (h : N.Sees a b) : M.Sees a b := fun s h0 h1 x y z hx hy hz => hf _ _ _ (h s h0 h1 x y z hx hy hz)
theorem Mp.Clear.mono {M N : Mp} (hf : ∀ x y z, N.Free x y z → M.Free x y z) {a b : V3} (h : N.Clear a b) : M.Clear a b := fun h1 h2 h3 x y z a1 a2 a3 a4 a5 a6 => hf _ _ _ (h h1 h2 h3 x y z a1 a2 a3 a4 a5 a6)
/-- Who sees the same cells between sees the same. -/
theorem Mp.Sees.same {M N : Mp} {a b : V3} (hf : ∀ x y z : Int, min (a.x / 65536) (b.x / 65536) ≤ x → x ≤ max (a.x / 65536) (b.x / 65536) → min (a.y / 65536) (b.y / 65536) ≤ y → y ≤ max (a.y / 65536) (b.y / 65536) → min (a.z / 65536) (b.z / 65536) ≤ z → z ≤ max (a.z / 65536) (b.z / 65536) → M.Free x y z → N.Free x y z) (h : M.Sees a b) : N.Sees a b := fun s h0 h1 x y z hx hy hz =>
  hf x y z (hx.between h0 h1).1 (hx.between h0 h1).2 (hy.between h0 h1).1 (hy.between h0 h1).2 (hz.between h0 h1).1 (hz.between h0 h1).2 (h s h0 h1 x y z hx hy hz)
/-- A cell between is met. -/
theorem meet_cell {a b x : Int} (h0 : min (a / 65536) (b / 65536) ≤ x) (h1 : x ≤ max (a / 65536) (b / 65536)) : ∃ s : Rat, 0 ≤ s ∧ s ≤ 1 ∧ InC x (posn a b s) := by
  by_cases ea : x = a / 65536
  · exact ⟨0, by grind, by grind, by rw [posn_0, ea]; exact InC.of a⟩
  · by_cases eb : x = b / 65536
    · exact ⟨1, by grind, by grind, by rw [posn_1, eb]; exact InC.of b⟩
    · have hc : ∀ v : Int, v = x * 65536 → InC x (v : Rat) := fun v hv => by rw [InC.iff]; omega
      rcases Int.lt_or_le a b with h | h
      · have hl : 0 < longI a b := by unfold longI; rw [if_pos h]; omega
        have r0 : Rg a b (x - 1) := ⟨fun _ => by omega, fun e => by omega⟩
        have g0 : Goes b (x - 1) := by unfold Goes; omega
        have t := tau_01 r0 g0
        refine ⟨tau a b (x - 1), t.1, t.2.1, ?_⟩
        rw [posn_tau hl, if_pos h]
        have e : (((x - 1 : Int) : Rat) + 1) * 65536 = ((x * 65536 : Int) : Rat) := by grind
        rw [e]; exact hc _ rfl
      · have hne : b < a := by
          rcases Int.lt_or_eq_of_le h with e | e
          · exact e
          · subst e; omega
        have hl : 0 < longI a b := by unfold longI; rw [if_neg (by omega)]; omega
        have r0 : Rg a b x := ⟨fun e => by omega, fun _ => by omega⟩
        have g0 : Goes b x := by unfold Goes; omega
        have t := tau_01 r0 g0
        refine ⟨tau a b x, t.1, t.2.1, ?_⟩
        rw [posn_tau hl, if_neg (by omega)]
        have e : ((x : Int) : Rat) * 65536 = ((x * 65536 : Int) : Rat) := by grind
        rw [e]; exact hc _ rfl
theorem Mp.straight {M : Mp} {a b : V3} (h : (a.y = b.y ∧ a.z = b.z) ∨ (a.x = b.x ∧ a.z = b.z) ∨ (a.x = b.x ∧ a.y = b.y)) : M.Sees a b ↔ M.Span a b := by
  refine ⟨fun hs => ?_, Mp.Span.sees⟩
  intro x y z h1 h2 h3 h4 h5 h6
  rcases h with ⟨e1, e2⟩ | ⟨e1, e2⟩ | ⟨e1, e2⟩
  · obtain ⟨s, s0, s1, hc⟩ := meet_cell h1 h2
    refine hs s s0 s1 x y z hc ?_ ?_
    · rw [← e1, posn_self, InC.iff]; omega
    · rw [← e2, posn_self, InC.iff]; omega
  · obtain ⟨s, s0, s1, hc⟩ := meet_cell h3 h4
    refine hs s s0 s1 x y z ?_ hc ?_
    · rw [← e1, posn_self, InC.iff]; omega
    · rw [← e2, posn_self, InC.iff]; omega
  · obtain ⟨s, s0, s1, hc⟩ := meet_cell h5 h6
    refine hs s s0 s1 x y z ?_ ?_ hc
    · rw [← e1, posn_self, InC.iff]; omega
    · rw [← e2, posn_self, InC.iff]; omega
/-- A box cut along X. -/
theorem Mp.Clear.cut {M : Mp} {lo hi : V3} {c : Int} (h1 : lo.x < hi.x) (h2 : lo.y < hi.y) (h3 : lo.z < hi.z) (hc0 : lo.x ≤ c) (hc1 : c ≤ hi.x) : M.Clear lo hi ↔ M.Clear lo ⟨c, hi.y, hi.z⟩ ∧ M.Clear ⟨c, lo.y, lo.z⟩ hi := by
  constructor
  · intro h
    have hh := h h1 h2 h3
    refine ⟨fun k1 k2 k3 x y z a1 a2 a3 a4 a5 a6 => ?_, fun k1 k2 k3 x y z a1 a2 a3 a4 a5 a6 => ?_⟩
    · exact hh x y z a1 (by dsimp only at a2; omega) a3 a4 a5 a6
    · exact hh x y z (by dsimp only at a1; omega) a2 a3 a4 a5 a6
  · rintro ⟨h, k⟩ _ _ _ x y z a1 a2 a3 a4 a5 a6
    by_cases e : x < (c - 1) / 65536 + 1
    · by_cases e2 : lo.x < c
      · exact h e2 h2 h3 x y z a1 e a3 a4 a5 a6
      · have : lo.x = c := by omega
        exact k (by dsimp only; omega) h2 h3 x y z (by dsimp only; omega) a2 a3 a4 a5 a6
    · by_cases e2 : c < hi.x
      · exact k e2 h2 h3 x y z (by dsimp only; omega) a2 a3 a4 a5 a6
      · have : hi.x = c := by omega
        exact h (by dsimp only; omega) h2 h3 x y z a1 (by dsimp only; omega) a3 a4 a5 a6
theorem Mp.Clear.sees {M : Mp} {lo hi : V3} (h1 : lo.x < hi.x) (h2 : lo.y < hi.y) (h3 : lo.z < hi.z) (h : M.Clear lo hi) : M.Sees lo ⟨hi.x - 1, hi.y - 1, hi.z - 1⟩ := by
  refine Mp.Span.sees fun x y z a1 a2 a3 a4 a5 a6 => ?_
  dsimp only at a1 a2 a3 a4 a5 a6
  exact h h1 h2 h3 x y z (by omega) (by omega) (by omega) (by omega) (by omega) (by omega)
/-- In a map without solid cells. -/
theorem Mp.open_sees {M : Mp} (hs : M.Sized) (hf : ∀ i, i < M.n → M.f i = false) {a b : V3} : M.Sees a b ↔ (0 ≤ a.x ∧ 0 ≤ a.y ∧ 0 ≤ a.z ∧ 0 ≤ b.x ∧ 0 ≤ b.y ∧ 0 ≤ b.z ∧ a.x < M.W * 65536 ∧ b.x < M.W * 65536 ∧ a.y < M.D * 65536 ∧ b.y < M.D * 65536 ∧ a.z < M.H * 65536 ∧ b.z < M.H * 65536) := by
  constructor
  · intro h
    obtain ⟨⟨_, _, _, _, _, _, _, _⟩, ⟨_, _, _, _, _, _, _, _⟩⟩ := h.ends
    omega
  · rintro ⟨_, _, _, _, _, _, _, _, _, _, _, _⟩
    refine Mp.Span.sees fun x y z a1 a2 a3 a4 a5 a6 => ?_
    obtain ⟨k, hk, _, hsol, _⟩ := solid_at hs (x := x) (y := y) (z := z) ⟨by omega, by omega⟩ ⟨by omega, by omega⟩ ⟨by omega, by omega⟩
    rw [hf k hk] at hsol
    exact Mp.solid_f.1 hsol
theorem Mp.open_clear {M : Mp} (hs : M.Sized) (hf : ∀ i, i < M.n → M.f i = false) {a b : V3} : M.Clear a b ↔ (b.x ≤ a.x ∨ b.y ≤ a.y ∨ b.z ≤ a.z) ∨ (0 ≤ a.x ∧ 0 ≤ a.y ∧ 0 ≤ a.z ∧ b.x ≤ M.W * 65536 ∧ b.y ≤ M.D * 65536 ∧ b.z ≤ M.H * 65536) := by
  constructor
  · intro h
    by_cases h1 : a.x < b.x
    · by_cases h2 : a.y < b.y
      · by_cases h3 : a.z < b.z
        · right
          have e1 := h h1 h2 h3 (a.x / 65536) (a.y / 65536) (a.z / 65536) (by omega) (by omega) (by omega) (by omega) (by omega) (by omega)
          have e2 := h h1 h2 h3 ((b.x - 1) / 65536) ((b.y - 1) / 65536) ((b.z - 1) / 65536) (by omega) (by omega) (by omega) (by omega) (by omega) (by omega)
          obtain ⟨_, _, _, _, _, _, _, _⟩ := e1
          obtain ⟨_, _, _, _, _, _, _, _⟩ := e2
          omega
        · left; omega
      · left; omega
    · left; omega
  · rintro h h1 h2 h3 x y z a1 a2 a3 a4 a5 a6
    rcases h with h | ⟨_, _, _, _, _, _⟩
    · omega
    · obtain ⟨k, hk, _, hsol, _⟩ := solid_at hs (x := x) (y := y) (z := z) ⟨by omega, by omega⟩ ⟨by omega, by omega⟩ ⟨by omega, by omega⟩
      rw [hf k hk] at hsol
      exact Mp.solid_f.1 hsol
end Go.Proofs.Ythcmcjklhcfenaa
