/- Layer 9 (grid): cells, and lines between points, as plain mathematics. No Go in this text. -/
import Derived.WalkKit
namespace Go.Proofs.Ythcmcjklhcfenaa
open Go.RowKit
set_option linter.unusedVariables false

/-- A point. -/
structure V3 where
  x : Int
  y : Int
  z : Int
/-- A map: its sides, how many cells it has, and which are solid. -/
structure Mp where
  W : Int
  D : Int
  H : Int
  n : Nat
  f : Nat → Bool
def Mp.Sized (M : Mp) : Prop := 1 ≤ M.W ∧ M.W ≤ 32 ∧ 1 ≤ M.D ∧ M.D ≤ 32 ∧ 1 ≤ M.H ∧ M.H ≤ 32 ∧ (M.n : Int) = M.W * M.D * M.H
def Mp.Free (M : Mp) (x y z : Int) : Prop := M.Sized ∧ 0 ≤ x ∧ x < M.W ∧ 0 ≤ y ∧ y < M.D ∧ 0 ≤ z ∧ z < M.H ∧ M.f ((z * M.D + y) * M.W + x).toNat = false
instance (M : Mp) : Decidable M.Sized := inferInstanceAs (Decidable (1 ≤ M.W ∧ M.W ≤ 32 ∧ 1 ≤ M.D ∧ M.D ≤ 32 ∧ 1 ≤ M.H ∧ M.H ≤ 32 ∧ (M.n : Int) = M.W * M.D * M.H))
instance (M : Mp) (x y z : Int) : Decidable (M.Free x y z) := inferInstanceAs (Decidable (M.Sized ∧ 0 ≤ x ∧ x < M.W ∧ 0 ≤ y ∧ y < M.D ∧ 0 ≤ z ∧ z < M.H ∧ M.f ((z * M.D + y) * M.W + x).toNat = false))
def Mp.solid (M : Mp) (x y z : Int) : Bool := !decide (M.Free x y z)
theorem Mp.solid_f {M : Mp} {x y z : Int} : M.solid x y z = false ↔ M.Free x y z := by simp [Mp.solid]
theorem Mp.solid_t {M : Mp} {x y z : Int} : M.solid x y z = true ↔ ¬ M.Free x y z := by simp [Mp.solid]

/-- A number's cell holds it. -/
def InC (c : Int) (v : Rat) : Prop := (c : Rat) * 65536 ≤ v ∧ v < ((c : Rat) + 1) * 65536
def posn (a b : Int) (s : Rat) : Rat := (a : Rat) + ((b : Rat) - a) * s
theorem posn_0 (a b : Int) : posn a b 0 = a := by unfold posn; grind
theorem posn_1 (a b : Int) : posn a b 1 = b := by unfold posn; grind
theorem posn_self (a : Int) (s : Rat) : posn a a s = a := by unfold posn; grind
theorem cast_le {a b : Int} (h : a ≤ b) : (a : Rat) ≤ b := Rat.intCast_le_intCast.2 h
theorem cast_lt {a b : Int} (h : a < b) : (a : Rat) < b := Rat.intCast_lt_intCast.2 h
theorem le_cast {a b : Int} (h : (a : Rat) ≤ b) : a ≤ b := Rat.intCast_le_intCast.1 h
theorem lt_cast {a b : Int} (h : (a : Rat) < b) : a < b := Rat.intCast_lt_intCast.1 h
theorem InC.uniq {c d : Int} {v : Rat} (h : InC c v) (k : InC d v) : c = d := by
  obtain ⟨h0, h1⟩ := h; obtain ⟨k0, k1⟩ := k
  have e1 : (c : Rat) < ((d + 1 : Int) : Rat) := by grind
  have e2 : (d : Rat) < ((c + 1 : Int) : Rat) := by grind
  have := lt_cast e1; have := lt_cast e2; omega
theorem InC.of (n : Int) : InC (n / 65536) (n : Rat) := by
  have h0 := cast_le (show n / 65536 * 65536 ≤ n by omega)
  have h1 := cast_lt (show n < (n / 65536 + 1) * 65536 by omega)
  unfold InC
  constructor <;> grind
theorem InC.iff (c n : Int) : InC c (n : Rat) ↔ c = n / 65536 := ⟨fun h => h.uniq (InC.of n), fun h => h ▸ InC.of n⟩
theorem InC.ex (v : Rat) : ∃ c : Int, InC c v := by
  refine ⟨(v / 65536).floor, ?_⟩
  have h0 := Rat.floor_le (v / 65536)
  have h1 := Rat.lt_floor_add_one (v / 65536)
  unfold InC
  constructor <;> grind
theorem posn_mono {a b : Int} (h : a ≤ b) {s t : Rat} (hs : s ≤ t) : posn a b s ≤ posn a b t := by
  have h0 := cast_le h
  have := Rat.mul_le_mul_of_nonneg_left hs (show 0 ≤ (b : Rat) - a by grind)
  unfold posn; grind
theorem posn_anti {a b : Int} (h : b ≤ a) {s t : Rat} (hs : s ≤ t) : posn a b t ≤ posn a b s := by
  have h0 := cast_le h
  have := Rat.mul_le_mul_of_nonneg_left hs (show 0 ≤ (a : Rat) - b by grind)
  unfold posn; grind
theorem posn_lt {a b : Int} (h : a < b) {s t : Rat} (hs : s < t) : posn a b s < posn a b t := by
  have h0 := cast_lt h
  have := Rat.mul_lt_mul_of_pos_left hs (show 0 < (b : Rat) - a by grind)
  unfold posn; grind
theorem posn_gt {a b : Int} (h : b < a) {s t : Rat} (hs : s < t) : posn a b t < posn a b s := by
  have h0 := cast_lt h
  have := Rat.mul_lt_mul_of_pos_left hs (show 0 < (a : Rat) - b by grind)
  unfold posn; grind

/-- Nothing that the line is in, at a share of the way, is solid. -/
def Mp.At (M : Mp) (a b : V3) (s : Rat) : Prop := ∀ x y z : Int, InC x (posn a.x b.x s) → InC y (posn a.y b.y s) → InC z (posn a.z b.z s) → M.Free x y z
def Mp.Sees (M : Mp) (a b : V3) : Prop := ∀ s : Rat, 0 ≤ s → s ≤ 1 → M.At a b s
theorem Mp.At.of {M : Mp} {a b : V3} {s : Rat} {x y z : Int} (hx : InC x (posn a.x b.x s)) (hy : InC y (posn a.y b.y s)) (hz : InC z (posn a.z b.z s)) : M.At a b s ↔ M.Free x y z := by
  constructor
  · intro h; exact h x y z hx hy hz
  · intro h x' y' z' hx' hy' hz'
    rw [hx'.uniq hx, hy'.uniq hy, hz'.uniq hz]; exact h
theorem boolOf (p : Prop) : ∃ s : Bool, s = true ↔ p := by
  by_cases h : p
  · exact ⟨true, by simp [h]⟩
  · exact ⟨false, by simp [h]⟩

/-! One axis of a line, and the cell that it has come to. -/
def edgeI (f t c : Int) : Int := if f < t then (c + 1) * 65536 - f else f - c * 65536
def longI (f t : Int) : Int := if f < t then t - f else f - t
def Goes (t c : Int) : Prop := c ≠ t / 65536
instance (t c : Int) : Decidable (Goes t c) := inferInstanceAs (Decidable (c ≠ t / 65536))
def Rg (f t c : Int) : Prop := (f < t → f / 65536 ≤ c ∧ c ≤ t / 65536) ∧ (t ≤ f → t / 65536 ≤ c ∧ c ≤ f / 65536)
def tau (f t c : Int) : Rat := (edgeI f t c : Rat) / (longI f t : Rat)
/-- It has entered its cell; it has not left it. -/
def En (f t c : Int) (s : Rat) : Prop := if f < t then (c : Rat) * 65536 ≤ posn f t s else posn f t s < ((c : Rat) + 1) * 65536
def NL (f t c : Int) (s : Rat) : Prop := if f < t then posn f t s < ((c : Rat) + 1) * 65536 else (c : Rat) * 65536 ≤ posn f t s
theorem InC_iff {f t c : Int} {s : Rat} : InC c (posn f t s) ↔ En f t c s ∧ NL f t c s := by
  unfold InC En NL; split
  · exact Iff.rfl
  · exact And.comm
theorem Rg.long {f t c : Int} (h : Rg f t c) (g : Goes t c) : 0 < longI f t ∧ f ≠ t := by
  unfold Goes at g; unfold longI
  obtain ⟨h1, h2⟩ := h
  split
  · omega
  · rename_i hn
    have := h2 (by omega)
    refine ⟨?_, ?_⟩
    · rcases Int.lt_or_eq_of_le (show t ≤ f by omega) with e | e
      · omega
      · subst e; omega
    · intro e; subst e; omega
theorem Rg.edge {f t c : Int} (h : Rg f t c) (g : Goes t c) : 0 ≤ edgeI f t c ∧ edgeI f t c ≤ longI f t ∧ (t < f → edgeI f t c < longI f t) := by
  have hl := h.long g
  unfold Goes at g
  obtain ⟨h1, h2⟩ := h
  unfold edgeI longI at *
  split
  · have := h1 (by assumption); refine ⟨by omega, by omega, by omega⟩
  · have := h2 (by omega); refine ⟨by omega, by omega, by omega⟩
theorem tau_mul {f t c : Int} (h : 0 < longI f t) : tau f t c * (longI f t : Rat) = edgeI f t c := by
  have := cast_lt h
  unfold tau; grind
theorem tau_lt {f t c f' t' c' : Int} (h : 0 < longI f t) (h' : 0 < longI f' t') : tau f t c < tau f' t' c' ↔ edgeI f t c * longI f' t' < edgeI f' t' c' * longI f t := by
  have e := tau_mul (c := c) h; have e' := tau_mul (c := c') h'
  have p := cast_lt h; have p' := cast_lt h'
  have q := Rat.mul_pos p p'
  have k1 : tau f t c * ((longI f t : Rat) * (longI f' t' : Rat)) = ((edgeI f t c * longI f' t' : Int) : Rat) := by rw [← Rat.mul_assoc, e]; grind
  have k2 : tau f' t' c' * ((longI f t : Rat) * (longI f' t' : Rat)) = ((edgeI f' t' c' * longI f t : Int) : Rat) := by rw [Rat.mul_comm (longI f t : Rat), ← Rat.mul_assoc, e']; grind
  constructor
  · intro k
    have := Rat.mul_lt_mul_of_pos_right k q
    rw [k1, k2] at this
    exact lt_cast (by simpa using this)
  · intro k
    have k' := cast_lt k
    apply Rat.not_le.1
    intro hge
    have := Rat.mul_le_mul_of_nonneg_right hge (show (0 : Rat) ≤ (longI f t : Rat) * (longI f' t' : Rat) by simpa using Rat.le_of_lt q)
    rw [k1, k2] at this
    have := le_cast this
    omega
theorem tau_le {f t c f' t' c' : Int} (h : 0 < longI f t) (h' : 0 < longI f' t') : tau f t c ≤ tau f' t' c' ↔ edgeI f t c * longI f' t' ≤ edgeI f' t' c' * longI f t := by
  have := tau_lt (c := c') (c' := c) h' h
  constructor
  · intro k
    apply Int.not_lt.1
    intro hh
    have := this.2 hh
    grind
  · intro k
    apply Rat.not_lt.1
    intro hh
    have := this.1 hh
    omega
theorem tau_eq {f t c f' t' c' : Int} (h : 0 < longI f t) (h' : 0 < longI f' t') : tau f t c = tau f' t' c' ↔ edgeI f t c * longI f' t' = edgeI f' t' c' * longI f t := by
  have h1 := tau_le (c := c) (c' := c') h h'; have h2 := tau_le (c := c') (c' := c) h' h
  constructor
  · intro k
    have := h1.1 (by grind); have := h2.1 (by grind); omega
  · intro k
    have := h1.2 (by omega); have := h2.2 (by omega); grind
/-- At its edge it is on it. -/
theorem posn_tau {f t c : Int} (h : 0 < longI f t) : posn f t (tau f t c) = if f < t then ((c : Rat) + 1) * 65536 else (c : Rat) * 65536 := by
  have e := tau_mul (c := c) h
  unfold posn
  unfold longI edgeI at e
  split
  · rename_i hl; simp only [hl, if_true] at e; grind
  · rename_i hl; simp only [hl, if_false] at e; grind
theorem NL_stay {f t c : Int} {s : Rat} (h : Rg f t c) (g : ¬ Goes t c) (hs : s ≤ 1) : NL f t c s := by
  have e : c = t / 65536 := by unfold Goes at g; omega
  unfold NL
  split
  · have h1 := posn_mono (show f ≤ t by omega) hs
    rw [posn_1] at h1
    have := cast_lt (show t < (c + 1) * 65536 by omega)
    grind
  · have h1 := posn_anti (show t ≤ f by omega) hs
    rw [posn_1] at h1
    have := cast_le (show c * 65536 ≤ t by omega)
    grind
theorem NL_goes {f t c : Int} {s : Rat} (h : 0 < longI f t) : NL f t c s ↔ if f < t then s < tau f t c else s ≤ tau f t c := by
  have e := posn_tau (c := c) h
  unfold NL
  split
  · rename_i hl
    simp only [hl, if_true] at e
    rw [← e]
    constructor
    · intro k
      apply Rat.not_le.1
      intro hh
      have := posn_mono (show f ≤ t by omega) hh
      grind
    · exact posn_lt hl
  · rename_i hl
    simp only [hl, if_false] at e
    have hlt : t < f := by unfold longI at h; simp only [hl, if_false] at h; omega
    rw [← e]
    constructor
    · intro k
      apply Rat.not_lt.1
      intro hh
      have := posn_gt hlt hh
      grind
    · exact posn_anti (by omega)
theorem En_start {f t : Int} {s : Rat} (hs : 0 ≤ s) : En f t (f / 65536) s := by
  unfold En
  split
  · have h1 := posn_mono (show f ≤ t by omega) hs
    rw [posn_0] at h1
    have := cast_le (show f / 65536 * 65536 ≤ f by omega)
    grind
  · have h1 := posn_anti (show t ≤ f by omega) hs
    rw [posn_0] at h1
    have := cast_lt (show f < (f / 65536 + 1) * 65536 by omega)
    grind
theorem Rg_start (f t : Int) : Rg f t (f / 65536) := by constructor <;> intro h <;> omega
theorem En_mono {f t c : Int} {s u : Rat} (h : En f t c s) (k : s ≤ u) : En f t c u := by
  unfold En at *
  split at h
  · rename_i hl
    simp only [hl, if_true]
    have := posn_mono (show f ≤ t by omega) k
    grind
  · rename_i hl
    simp only [hl, if_false]
    have := posn_anti (show t ≤ f by omega) k
    grind
/-- The next cell. -/
def stepC (f t c : Int) : Int := if f < t then c + 1 else c - 1
theorem En_step {f t c : Int} {s : Rat} : En f t (stepC f t c) s ↔ ¬ NL f t c s := by
  unfold En NL stepC
  split
  · have e : (((c + 1 : Int) : Rat)) = (c : Rat) + 1 := by grind
    rw [e]
    constructor
    · intro h k; grind
    · intro h; grind
  · have e : (((c - 1 : Int) : Rat)) = (c : Rat) - 1 := by grind
    rw [e]
    constructor
    · intro h k; grind
    · intro h; grind
theorem Rg_step {f t c : Int} (h : Rg f t c) (g : Goes t c) : Rg f t (stepC f t c) := by
  have hl := h.long g
  unfold Goes at g; unfold Rg stepC at *
  split <;> constructor <;> intro k <;> (first | (have := h.1 (by omega); omega) | (have := h.2 (by omega); omega) | omega)
theorem tau_step {f t c : Int} (h : 0 < longI f t) : tau f t c < tau f t (stepC f t c) := by
  rw [tau_lt h h]
  apply Int.mul_lt_mul_of_pos_right _ h
  unfold edgeI stepC
  split <;> omega
theorem tau_01 {f t c : Int} (h : Rg f t c) (g : Goes t c) : 0 ≤ tau f t c ∧ tau f t c ≤ 1 ∧ (¬ f < t → tau f t c < 1) := by
  have hl := (h.long g).1
  obtain ⟨e0, e1, e2⟩ := h.edge g
  have hm := tau_mul (c := c) hl
  have p := cast_lt hl; have q0 := cast_le e0; have q1 := cast_le e1
  refine ⟨?_, ?_, ?_⟩
  · apply Rat.not_lt.1
    intro hh
    have := Rat.mul_lt_mul_of_pos_right hh p
    grind
  · apply Rat.not_lt.1
    intro hh
    have := Rat.mul_lt_mul_of_pos_right hh p
    grind
  · intro hn
    have q2 := cast_lt (e2 (by have := (h.long g).2; omega))
    apply Rat.not_le.1
    intro hh
    have := Rat.mul_le_mul_of_nonneg_right hh (Rat.le_of_lt p)
    grind
theorem mid2 {n a b : Rat} (h : n < a) (k : n < b) : ∃ s, n < s ∧ s < a ∧ s < b := by
  by_cases e : a ≤ b
  · exact ⟨(n + a) / 2, by grind, by grind, by grind⟩
  · exact ⟨(n + b) / 2, by grind, by grind, by grind⟩
theorem mid4 {n a b c d : Rat} (ha : n < a) (hb : n < b) (hc : n < c) (hd : n < d) : ∃ s, n < s ∧ s < a ∧ s < b ∧ s < c ∧ s < d := by
  obtain ⟨s1, h1, h2, h3⟩ := mid2 ha hb
  obtain ⟨s2, k1, k2, k3⟩ := mid2 hc hd
  obtain ⟨s, l1, l2, l3⟩ := mid2 h1 k1
  exact ⟨s, l1, by grind, by grind, by grind, by grind⟩
end Go.Proofs.Ythcmcjklhcfenaa
