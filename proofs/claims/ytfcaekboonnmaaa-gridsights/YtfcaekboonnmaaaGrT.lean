/- Layer 9 (grid), no program: sight by the parts of a line: rising from 0 to 1, every edge among them. -/
import Derived.Test.YtfcaekboonnmaaaGrK
namespace Go.Proofs.Ytfcaekboonnmaaa
set_option linter.unusedVariables false
set_option linter.unusedSimpArgs false

/-- An axis is at a cell's edge at that part. -/
def Ed (a b : Int) (v : Rat) : Prop := ∃ k : Int, 0 ≤ k ∧ k ≤ 32 ∧ posn a b v = (k : Rat) * 65536
theorem posn_hit {a b : Int} (h : a ≠ b) (y : Rat) : posn a b ((y - a) / ((b : Rat) - a)) = y := by
  have hd : (b : Rat) - a ≠ 0 := by
    intro e
    apply h
    have : (b : Rat) = a := by grind
    exact (Rat.intCast_inj.1 this).symm
  unfold posn
  have : ((b : Rat) - a) * ((y - a) / ((b : Rat) - a)) = y - a := by
    rw [Rat.div_def]
    rw [show ((b : Rat) - a) * ((y - a) * ((b : Rat) - a)⁻¹) = (y - a) * (((b : Rat) - a) * ((b : Rat) - a)⁻¹) by grind, Rat.mul_inv_cancel _ hd]
    grind
  grind
theorem lt_c (a b : Int) : (a : Rat) < b ↔ a < b := Rat.intCast_lt_intCast
theorem le_c (a b : Int) : (a : Rat) ≤ b ↔ a ≤ b := Rat.intCast_le_intCast
theorem btw_up {a b c : Int} {s t u : Rat} (h : a ≤ b) (ha : 0 ≤ a) (hb : b < 32 * 65536) (h0 : 0 ≤ s) (h1 : t ≤ 1) (hs : s < u) (ht : u < t) (hc : InC c (posn a b s)) (hn : ∀ v, s < v → v < t → a ≠ b → ¬ Ed a b v) : InC c (posn a b u) := by
  by_cases e : a = b
  · subst e; rw [posn_self] at hc ⊢; exact hc
  · have hlt : a < b := by omega
    refine ⟨Rat.le_trans hc.1 (posn_mono h (Rat.le_of_lt hs)), ?_⟩
    apply Rat.not_le.1
    intro hge
    have hv := posn_hit e (((c : Rat) + 1) * 65536)
    obtain ⟨v, ev⟩ : ∃ v, ((((c : Rat) + 1) * 65536) - a) / ((b : Rat) - a) = v := ⟨_, rfl⟩
    rw [ev] at hv
    have v1 : s < v := by
      apply Rat.not_le.1
      intro hle
      have := posn_mono h hle
      have := hc.2
      grind
    have v2 : v ≤ u := by
      apply Rat.not_lt.1
      intro hl
      have := posn_lt hlt hl
      grind
    have p0 := (posn_between (a := a) (b := b) h0 (Rat.le_trans (Rat.le_of_lt (by grind : s < t)) h1)).1
    have p1 := (posn_between (a := a) (b := b) (s := u) (by grind) (by grind)).2
    have m0 : (0 : Rat) ≤ ((min a b : Int) : Rat) := by have := cast_le (show (0 : Int) ≤ min a b by omega); simpa using this
    have m1 : ((max a b : Int) : Rat) < ((32 * 65536 : Int) : Rat) := cast_lt (by omega)
    have k0 : (0 : Rat) < (((c + 1) * 65536 : Int) : Rat) := by
      have := hc.2
      have e1 : (((c + 1) * 65536 : Int) : Rat) = ((c : Rat) + 1) * 65536 := by simp
      grind
    have k1 : (((c + 1) * 65536 : Int) : Rat) < ((32 * 65536 : Int) : Rat) := by
      have e1 : (((c + 1) * 65536 : Int) : Rat) = ((c : Rat) + 1) * 65536 := by simp
      grind
    have k0' : (0 : Int) < (c + 1) * 65536 := lt_cast (by simpa using k0)
    have k1' := lt_cast k1
    exact hn v v1 (by grind) e ⟨c + 1, by omega, by omega, by rw [hv]; simp⟩
theorem btw_down {a b c : Int} {s t u : Rat} (h : b < a) (hb : 0 ≤ b) (ha : a < 32 * 65536) (h0 : 0 ≤ s) (h1 : t ≤ 1) (hs : s < u) (ht : u < t) (hc : InC c (posn a b t)) (hn : ∀ v, s < v → v < t → a ≠ b → ¬ Ed a b v) : InC c (posn a b u) := by
  have e : a ≠ b := by omega
  refine ⟨Rat.le_trans hc.1 (posn_anti (by omega) (Rat.le_of_lt ht)), ?_⟩
  apply Rat.not_le.1
  intro hge
  have hv := posn_hit e (((c : Rat) + 1) * 65536)
  obtain ⟨v, ev⟩ : ∃ v, ((((c : Rat) + 1) * 65536) - a) / ((b : Rat) - a) = v := ⟨_, rfl⟩
  rw [ev] at hv
  have v1 : v < t := by
    apply Rat.not_le.1
    intro hle
    have := posn_anti (show b ≤ a by omega) hle
    have := hc.2
    grind
  have v2 : u ≤ v := by
    apply Rat.not_lt.1
    intro hl
    have := posn_gt h hl
    grind
  have p0 := (posn_between (a := a) (b := b) (s := t) (by grind) h1).1
  have p1 := (posn_between (a := a) (b := b) (s := u) (by grind) (by grind)).2
  have m0 : (0 : Rat) ≤ ((min a b : Int) : Rat) := by have := cast_le (show (0 : Int) ≤ min a b by omega); simpa using this
  have m1 : ((max a b : Int) : Rat) < ((32 * 65536 : Int) : Rat) := cast_lt (by omega)
  have k0 : (0 : Rat) < (((c + 1) * 65536 : Int) : Rat) := by
    have := hc.2
    have e1 : (((c + 1) * 65536 : Int) : Rat) = ((c : Rat) + 1) * 65536 := by simp
    grind
  have k1 : (((c + 1) * 65536 : Int) : Rat) < ((32 * 65536 : Int) : Rat) := by
    have e1 : (((c + 1) * 65536 : Int) : Rat) = ((c : Rat) + 1) * 65536 := by simp
    grind
  have k0' : (0 : Int) < (c + 1) * 65536 := lt_cast (by simpa using k0)
  have k1' := lt_cast k1
  exact hn v (by grind) v1 e ⟨c + 1, by omega, by omega, by rw [hv]; simp⟩
/-- Parts that rise. -/
def Rises (n : Nat) (P : Nat → Rat) : Prop := ∀ i, i + 1 < n → P i < P (i + 1)
theorem Rises.lt {n : Nat} {P : Nat → Rat} (h : Rises n P) {i : Nat} : ∀ j, i < j → j < n → P i < P j := by
  intro j
  induction j with
  | zero => intro h; omega
  | succ j ih =>
    intro hi hj
    by_cases e : i = j
    · subst e; exact h i hj
    · exact Std.lt_trans (ih (by omega) (by omega)) (h j hj)
theorem Rises.le {n : Nat} {P : Nat → Rat} (h : Rises n P) {i j : Nat} (hi : i ≤ j) (hj : j < n) : P i ≤ P j := by
  by_cases e : i = j
  · subst e; exact Rat.le_refl
  · exact Rat.le_of_lt (h.lt j (by omega) hj)
/-- Where a part is: one of these, or between two. -/
theorem locate {n : Nat} {P : Nat → Rat} (u : Rat) (hn : 0 < n) (h0 : P 0 ≤ u) (h1 : u ≤ P (n - 1)) : (∃ i, i < n ∧ P i = u) ∨ ∃ i, i + 1 < n ∧ P i < u ∧ u < P (i + 1) := by
  have key : ∀ k, k < n → P k ≤ u ∨ ((∃ i, i < n ∧ P i = u) ∨ ∃ i, i + 1 < n ∧ P i < u ∧ u < P (i + 1)) := by
    intro k
    induction k with
    | zero => intro _; exact .inl h0
    | succ k ih =>
      intro hk
      rcases ih (by omega) with h | h
      · by_cases e : P (k + 1) ≤ u
        · exact .inl e
        · have e' : u < P (k + 1) := Rat.not_le.1 e
          by_cases e2 : P k = u
          · exact .inr (.inl ⟨k, by omega, e2⟩)
          · exact .inr (.inr ⟨k, hk, by grind, e'⟩)
      · exact .inr h
  rcases key (n - 1) (by omega) with h | h
  · exact .inl ⟨n - 1, by omega, by grind⟩
  · exact h
/-- Sight by parts. -/
theorem Mp.sees_parts {M : Mp} {a b : V3} {n : Nat} {P : Nat → Rat} (hn : 1 < n) (hr : Rises n P) (p0 : P 0 = 0) (p1 : P (n - 1) = 1)
    (ax : 0 ≤ a.x ∧ a.x < 32 * 65536) (ay : 0 ≤ a.y ∧ a.y < 32 * 65536) (az : 0 ≤ a.z ∧ a.z < 32 * 65536) (bx : 0 ≤ b.x ∧ b.x < 32 * 65536) (by_ : 0 ≤ b.y ∧ b.y < 32 * 65536) (bz : 0 ≤ b.z ∧ b.z < 32 * 65536)
    (ex : ∀ v, 0 ≤ v → v ≤ 1 → a.x ≠ b.x → Ed a.x b.x v → ∃ i, i < n ∧ P i = v) (ey : ∀ v, 0 ≤ v → v ≤ 1 → a.y ≠ b.y → Ed a.y b.y v → ∃ i, i < n ∧ P i = v) (ez : ∀ v, 0 ≤ v → v ≤ 1 → a.z ≠ b.z → Ed a.z b.z v → ∃ i, i < n ∧ P i = v)
    {X Y Z : Nat → Int} (hX : ∀ i, i < n → InC (X i) (posn a.x b.x (P i))) (hY : ∀ i, i < n → InC (Y i) (posn a.y b.y (P i))) (hZ : ∀ i, i < n → InC (Z i) (posn a.z b.z (P i))) :
    M.Sees a b ↔ (∀ i, i < n → M.Free (X i) (Y i) (Z i)) ∧ ∀ i, i + 1 < n → M.Free (if b.x < a.x then X (i + 1) else X i) (if b.y < a.y then Y (i + 1) else Y i) (if b.z < a.z then Z (i + 1) else Z i) := by
  have b01 : ∀ i, i < n → 0 ≤ P i ∧ P i ≤ 1 := fun i hi => ⟨p0 ▸ hr.le (Nat.zero_le i) hi, p1 ▸ hr.le (show i ≤ n - 1 by omega) (by omega)⟩
  have one : ∀ {f t : Int} {C : Nat → Int}, 0 ≤ f ∧ f < 32 * 65536 → 0 ≤ t ∧ t < 32 * 65536 → (∀ v, 0 ≤ v → v ≤ 1 → f ≠ t → Ed f t v → ∃ i, i < n ∧ P i = v) → (∀ i, i < n → InC (C i) (posn f t (P i))) → ∀ i, i + 1 < n → ∀ u, P i < u → u < P (i + 1) → InC (if t < f then C (i + 1) else C i) (posn f t u) := by
    intro f t C hf ht he hC i hi u hu hu'
    have hno : ∀ v, P i < v → v < P (i + 1) → f ≠ t → ¬ Ed f t v := by
      intro v v1 v2 hne hed
      have := b01 i (by omega)
      have := b01 (i + 1) hi
      obtain ⟨j, hj, rfl⟩ := he v (by grind) (by grind) hne hed
      by_cases hle : j ≤ i
      · have := hr.le hle (by omega)
        grind
      · have := hr.le (show i + 1 ≤ j by omega) hj
        grind
    by_cases hlt : t < f
    · rw [if_pos hlt]
      exact btw_down hlt ht.1 hf.2 (b01 i (by omega)).1 (b01 (i + 1) hi).2 hu hu' (hC (i + 1) hi) hno
    · rw [if_neg hlt]
      exact btw_up (by omega) hf.1 ht.2 (b01 i (by omega)).1 (b01 (i + 1) hi).2 hu hu' (hC i (by omega)) hno
  constructor
  · intro h
    refine ⟨fun i hi => h (P i) (b01 i hi).1 (b01 i hi).2 _ _ _ (hX i hi) (hY i hi) (hZ i hi), fun i hi => ?_⟩
    have hlt := hr i hi
    have := b01 i (by omega)
    have := b01 (i + 1) hi
    obtain ⟨u, u1, u2⟩ : ∃ u, P i < u ∧ u < P (i + 1) := ⟨(P i + P (i + 1)) / 2, by grind, by grind⟩
    exact h u (by grind) (by grind) _ _ _ (one ax bx ex hX i hi u u1 u2) (one ay by_ ey hY i hi u u1 u2) (one az bz ez hZ i hi u u1 u2)
  · rintro ⟨h1, h2⟩ u u0 u1 x y z hx hy hz
    rcases locate (n := n) (P := P) u (by omega) (by rw [p0]; exact u0) (by rw [p1]; exact u1) with ⟨i, hi, rfl⟩ | ⟨i, hi, v1, v2⟩
    · rw [hx.uniq (hX i hi), hy.uniq (hY i hi), hz.uniq (hZ i hi)]
      exact h1 i hi
    · rw [hx.uniq (one ax bx ex hX i hi u v1 v2), hy.uniq (one ay by_ ey hY i hi u v1 v2), hz.uniq (one az bz ez hZ i hi u v1 v2)]
      exact h2 i hi
end Go.Proofs.Ytfcaekboonnmaaa
