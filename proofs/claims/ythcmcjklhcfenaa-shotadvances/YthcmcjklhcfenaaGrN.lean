/- Layer 9 (grid): a line's way from cell to cell, as plain mathematics: what is looked at is all that it is in. No Go in this text. -/
import Derived.Test.YthcmcjklhcfenaaGrM
namespace Go.Proofs.Ythcmcjklhcfenaa
open Go.RowKit
set_option linter.unusedVariables false

/-- Three numbers by their place. -/
def sel (x y z : Int) : Nat → Int
  | 0 => x
  | 1 => y
  | _ => z
def v3 (F : Nat → Int) : V3 := ⟨F 0, F 1, F 2⟩
/-- What holds ahead of each round. -/
structure Inv (M : Mp) (F T C : Nat → Int) : Prop where
  rg : ∀ i, Rg (F i) (T i) (C i)
  free : M.Free (C 0) (C 1) (C 2)
  ent : ∀ i j, Goes (T j) (C j) → En (F i) (T i) (C i) (tau (F j) (T j) (C j))
  cov : ∀ s, 0 ≤ s → s ≤ 1 → (∃ i, ¬ En (F i) (T i) (C i) s) → M.At (v3 F) (v3 T) s
theorem Inv.start {M : Mp} {F T : Nat → Int} (h : M.Free (F 0 / 65536) (F 1 / 65536) (F 2 / 65536)) : Inv M F T (fun i => F i / 65536) :=
  ⟨fun i => Rg_start _ _, h, fun i j g => En_start (tau_01 (Rg_start _ _) g).1, fun s h0 h1 ⟨i, hi⟩ => absurd (En_start h0) hi⟩
theorem At_of {M : Mp} {F T C : Nat → Int} {s : Rat} (h : ∀ i, InC (C i) (posn (F i) (T i) s)) : M.At (v3 F) (v3 T) s ↔ M.Free (C 0) (C 1) (C 2) :=
  Mp.At.of (h 0) (h 1) (h 2)
theorem Inv.done {M : Mp} {F T C : Nat → Int} (h : Inv M F T C) (g : ∀ i, ¬ Goes (T i) (C i)) : M.Sees (v3 F) (v3 T) := by
  intro s h0 h1
  by_cases e : ∃ i, ¬ En (F i) (T i) (C i) s
  · exact h.cov s h0 h1 e
  · rw [At_of (C := C) fun i => InC_iff.2 ⟨Classical.not_not.1 fun k => e ⟨i, k⟩, NL_stay (h.rg i) (g i) h1⟩]
    exact h.free
/-- Who steps: of this way round, on the go, and at its edge at that share of the way. -/
def stp1 (f t c : Int) (r : Bool) (en ln : Int) : Int := if decide (f < t) = r ∧ Goes t c ∧ edgeI f t c * ln = en * longI f t then stepC f t c else c
def stp (F T C : Nat → Int) (r : Bool) (en ln : Int) : Nat → Int := fun i => stp1 (F i) (T i) (C i) r en ln
/-- Who comes to an edge first. -/
structure First (F T C : Nat → Int) (k : Nat) : Prop where
  goes : Goes (T k) (C k)
  least : ∀ j, Goes (T j) (C j) → tau (F k) (T k) (C k) ≤ tau (F j) (T j) (C j)
theorem Inv.up {M : Mp} {F T C : Nat → Int} (h : Inv M F T C) {k : Nat} (hk : First F T C k) (i : Nat) :
    InC (stp F T C true (edgeI (F k) (T k) (C k)) (longI (F k) (T k)) i) (posn (F i) (T i) (tau (F k) (T k) (C k))) := by
  have hlk := ((h.rg k).long hk.goes).1
  have h01 := tau_01 (h.rg k) hk.goes
  unfold stp stp1
  split
  · rename_i hs
    obtain ⟨hr, hg, he⟩ := hs
    have hr : F i < T i := by simpa using hr
    have hli := ((h.rg i).long hg).1
    have ht : tau (F i) (T i) (C i) = tau (F k) (T k) (C k) := (tau_eq hli hlk).2 he
    have hp := posn_tau (c := C i) hli
    rw [ht] at hp
    simp only [hr, if_true] at hp
    rw [hp]
    unfold stepC InC
    rw [if_pos hr]
    have e : (((C i + 1 : Int) : Rat)) = (C i : Rat) + 1 := by grind
    rw [e]
    constructor <;> grind
  · rename_i hs
    refine InC_iff.2 ⟨h.ent i k hk.goes, ?_⟩
    by_cases hg : Goes (T i) (C i)
    · have hli := ((h.rg i).long hg).1
      have hle := hk.least i hg
      rw [NL_goes hli]
      split
      · rename_i hr
        have hne : tau (F i) (T i) (C i) ≠ tau (F k) (T k) (C k) := fun e => hs ⟨by simpa using hr, hg, (tau_eq hli hlk).1 e⟩
        grind
      · exact hle
    · exact NL_stay (h.rg i) hg h01.2.1
theorem Inv.blind_up {M : Mp} {F T C : Nat → Int} (h : Inv M F T C) {k : Nat} (hk : First F T C k) {C' : Nat → Int} (hC : C' = stp F T C true (edgeI (F k) (T k) (C k)) (longI (F k) (T k)))
    (hf : ¬ M.Free (C' 0) (C' 1) (C' 2)) : ¬ M.Sees (v3 F) (v3 T) := by
  subst hC
  intro hs
  have h01 := tau_01 (h.rg k) hk.goes
  exact hf ((At_of (h.up hk)).1 (hs _ h01.1 h01.2.1))
/-- Both steps. -/
def both (F T C : Nat → Int) (k : Nat) : Nat → Int := stp F T (stp F T C true (edgeI (F k) (T k) (C k)) (longI (F k) (T k))) false (edgeI (F k) (T k) (C k)) (longI (F k) (T k))
theorem both_eq {F T C : Nat → Int} {k : Nat} (i : Nat) : both F T C k i = if Goes (T i) (C i) ∧ edgeI (F i) (T i) (C i) * longI (F k) (T k) = edgeI (F k) (T k) (C k) * longI (F i) (T i) then stepC (F i) (T i) (C i) else C i := by
  unfold both stp stp1
  by_cases hr : F i < T i
  · simp [hr]
  · simp [hr]
theorem Inv.later {M : Mp} {F T C : Nat → Int} (h : Inv M F T C) {k : Nat} (hk : First F T C k) (i : Nat) :
    Rg (F i) (T i) (both F T C k i) ∧ (∀ s, tau (F k) (T k) (C k) < s → En (F i) (T i) (both F T C k i) s) ∧ (Goes (T i) (both F T C k i) → tau (F k) (T k) (C k) < tau (F i) (T i) (both F T C k i)) := by
  have hlk := ((h.rg k).long hk.goes).1
  rw [both_eq]
  split
  · rename_i hs
    obtain ⟨hg, he⟩ := hs
    have hli := ((h.rg i).long hg).1
    have ht : tau (F i) (T i) (C i) = tau (F k) (T k) (C k) := (tau_eq hli hlk).2 he
    refine ⟨Rg_step (h.rg i) hg, ?_, ?_⟩
    · intro s hs
      rw [En_step, NL_goes hli]
      rw [ht]
      split <;> grind
    · intro _
      rw [← ht]
      exact tau_step hli
  · rename_i hs
    refine ⟨h.rg i, fun s hs => En_mono (h.ent i k hk.goes) (Rat.le_of_lt hs), fun hg => ?_⟩
    have hli := ((h.rg i).long hg).1
    have hle := hk.least i hg
    have hne : tau (F i) (T i) (C i) ≠ tau (F k) (T k) (C k) := fun e => hs ⟨hg, (tau_eq hli hlk).1 e⟩
    grind
theorem Inv.next {M : Mp} {F T C : Nat → Int} (h : Inv M F T C) {k : Nat} (hk : First F T C k) {C' : Nat → Int} (hC : C' = stp F T C true (edgeI (F k) (T k) (C k)) (longI (F k) (T k)))
    (hf : M.Free (C' 0) (C' 1) (C' 2)) (hf2 : M.Free (both F T C k 0) (both F T C k 1) (both F T C k 2)) : Inv M F T (both F T C k) := by
  subst hC
  have hl := h.later hk
  refine ⟨fun i => (hl i).1, hf2, fun i j g => (hl i).2.1 _ ((hl j).2.2 g), ?_⟩
  rintro s h0 h1 ⟨i, hi⟩
  have hle : s ≤ tau (F k) (T k) (C k) := Rat.not_lt.1 fun e => hi ((hl i).2.1 s e)
  by_cases he : s = tau (F k) (T k) (C k)
  · rw [he, At_of (h.up hk)]; exact hf
  · have hlt : s < tau (F k) (T k) (C k) := by grind
    by_cases e : ∃ i, ¬ En (F i) (T i) (C i) s
    · exact h.cov s h0 h1 e
    · rw [At_of (C := C) fun i => InC_iff.2 ⟨Classical.not_not.1 fun k => e ⟨i, k⟩, ?_⟩]
      · exact h.free
      · by_cases hg : Goes (T i) (C i)
        · have hli := ((h.rg i).long hg).1
          have := hk.least i hg
          rw [NL_goes hli]
          split <;> grind
        · exact NL_stay (h.rg i) hg h1
theorem Inv.blind {M : Mp} {F T C : Nat → Int} (h : Inv M F T C) {k : Nat} (hk : First F T C k) {C' : Nat → Int} (hC : C' = stp F T C true (edgeI (F k) (T k) (C k)) (longI (F k) (T k)))
    (hf : M.Free (C' 0) (C' 1) (C' 2)) (hf2 : ¬ M.Free (both F T C k 0) (both F T C k 1) (both F T C k 2)) : ¬ M.Sees (v3 F) (v3 T) := by
  intro hs
  have hl := h.later hk
  have hlk := ((h.rg k).long hk.goes).1
  -- some axis that falls has stepped
  have hx : ∃ i, ¬ F i < T i ∧ Goes (T i) (C i) ∧ edgeI (F i) (T i) (C i) * longI (F k) (T k) = edgeI (F k) (T k) (C k) * longI (F i) (T i) := by
    apply Classical.byContradiction
    intro hn
    have hb : ∀ i, both F T C k i = C' i := by
      intro i
      rw [both_eq, hC]
      unfold stp stp1
      by_cases hr : F i < T i
      · simp [hr]
      · rw [if_neg fun e => hn ⟨i, hr, e⟩]
        simp [hr]
    rw [hb, hb, hb] at hf2
    exact hf2 hf
  obtain ⟨i0, hr0, hg0, he0⟩ := hx
  have hl0 := ((h.rg i0).long hg0).1
  have h1 : tau (F k) (T k) (C k) < 1 := by
    rw [← (tau_eq (c := C i0) (c' := C k) hl0 hlk).2 he0]
    exact (tau_01 (h.rg i0) hg0).2.2 hr0
  have h01 := tau_01 (h.rg k) hk.goes
  have hb : ∀ i, ∃ u, tau (F k) (T k) (C k) < u ∧ (Goes (T i) (both F T C k i) → u = tau (F i) (T i) (both F T C k i)) := by
    intro i
    by_cases g : Goes (T i) (both F T C k i)
    · exact ⟨_, (hl i).2.2 g, fun _ => rfl⟩
    · exact ⟨1, h1, fun e => absurd e g⟩
  obtain ⟨u0, a0, b0⟩ := hb 0
  obtain ⟨u1, a1, b1⟩ := hb 1
  obtain ⟨u2, a2, b2⟩ := hb 2
  obtain ⟨s, hs0, hs1, hs2, hs3, hs4⟩ := mid4 h1 a0 a1 a2
  have hin : ∀ i, (Goes (T i) (both F T C k i) → s < tau (F i) (T i) (both F T C k i)) → InC (both F T C k i) (posn (F i) (T i) s) := by
    intro i hi
    refine InC_iff.2 ⟨(hl i).2.1 s hs0, ?_⟩
    by_cases g : Goes (T i) (both F T C k i)
    · have hli := ((hl i).1.long g).1
      have := hi g
      rw [NL_goes hli]
      split <;> grind
    · exact NL_stay (hl i).1 g (by grind)
  have hall := hs s (by grind) (by grind)
  have : M.Free (both F T C k 0) (both F T C k 1) (both F T C k 2) :=
    (Mp.At.of (a := v3 F) (b := v3 T) (hin 0 fun g => by rw [← b0 g]; exact hs2) (hin 1 fun g => by rw [← b1 g]; exact hs3) (hin 2 fun g => by rw [← b2 g]; exact hs4)).1 hall
  exact hf2 this
/-- How many cells are ahead. -/
def ahead (T C : Nat → Int) : Nat := (C 0 - T 0 / 65536).natAbs + (C 1 - T 1 / 65536).natAbs + (C 2 - T 2 / 65536).natAbs
theorem step_nearer {f t c : Int} (h : Rg f t c) (g : Goes t c) : (stepC f t c - t / 65536).natAbs < (c - t / 65536).natAbs := by
  have hl := h.long g
  unfold Goes at g
  obtain ⟨h1, h2⟩ := h
  unfold stepC
  split
  · have := h1 (by assumption); omega
  · have := h2 (by omega); omega
theorem Inv.nearer {M : Mp} {F T C : Nat → Int} (h : Inv M F T C) {k : Nat} (hk3 : k < 3) (hk : First F T C k) : ahead T (both F T C k) < ahead T C := by
  have hle : ∀ i, (both F T C k i - T i / 65536).natAbs ≤ (C i - T i / 65536).natAbs := by
    intro i
    rw [both_eq]
    split
    · rename_i hs; exact Nat.le_of_lt (step_nearer (h.rg i) hs.1)
    · exact Nat.le_refl _
  have hlt : (both F T C k k - T k / 65536).natAbs < (C k - T k / 65536).natAbs := by
    rw [both_eq, if_pos ⟨hk.goes, rfl⟩]
    exact step_nearer (h.rg k) hk.goes
  have h0 := hle 0; have h1 := hle 1; have h2 := hle 2
  unfold ahead
  have : k = 0 ∨ k = 1 ∨ k = 2 := by omega
  rcases this with rfl | rfl | rfl <;> omega
end Go.Proofs.Ythcmcjklhcfenaa
