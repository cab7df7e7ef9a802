/- Layer 9 (grid), no program: sight by a row of parts. -/
import Derived.Test.YtfcaekboonnmaaaGrAa
namespace Go.Proofs.Ytfcaekboonnmaaa
set_option linter.unusedVariables false
set_option linter.unusedSimpArgs false

/-- A part by its number. -/
def nth (qs : List (Int × Int)) (i : Nat) : Int × Int := qs.getD i (0, 1)
theorem nth_get {qs : List (Int × Int)} {i : Nat} (h : i < qs.length) : nth qs i = qs[i] := by simp [nth, h]
/-- All edges of an axis are among the parts. -/
def Hits (a b : Int) (qs : List (Int × Int)) : Prop := a ≠ b → ∀ j : Int, 0 ≤ j → j < 33 → ∀ v : Rat, 0 ≤ v → v ≤ 1 → posn a b v = (j : Rat) * 65536 → ∃ f ∈ qs, valP f = v
theorem Hits.mono {a b : Int} {ps qs : List (Int × Int)} (h : Hits a b ps) (k : ∀ e ∈ ps, e ∈ qs) : Hits a b qs := fun hne j j0 j1 v v0 v1 hv => by
  obtain ⟨f, hf, he⟩ := h hne j j0 j1 v v0 v1 hv
  exact ⟨f, k f hf, he⟩
theorem Good.hits {ps qs : List (Int × Int)} {a b : Int} (h : Good ps a b 33 qs) : Hits a b qs := fun hne j j0 j1 => h.hit hne j j0 (by omega)
theorem Good.start {ps : List (Int × Int)} (a b : Int) (h1 : ∀ e ∈ ps, PartOk e) (h2 : Up ps) : Good ps a b 0 ps := ⟨h1, h2, fun e he => he, by omega, Nat.le_refl _, fun _ j j0 j1 => by omega⟩
theorem ends_ok : (∀ e ∈ [((0 : Int), (1 : Int)), (1, 1)], PartOk e) ∧ Up [((0 : Int), (1 : Int)), (1, 1)] := by
  constructor
  · intro e he
    simp at he
    rcases he with rfl | rfl <;> refine ⟨by decide, by decide, by decide, by decide⟩
  · unfold Up
    simp
    exact (lessP_iff ⟨by decide, by decide, by decide, by decide⟩ ⟨by decide, by decide, by decide, by decide⟩).1 (by unfold LessP; decide)
theorem valP_0 : valP (0, 1) = 0 := by
  have := (valP_mul (e := (0, 1)) ⟨by decide, by decide, by decide, by decide⟩).1
  dsimp only at this
  grind
theorem valP_1 : valP (1, 1) = 1 := by
  have := (valP_mul (e := (1, 1)) ⟨by decide, by decide, by decide, by decide⟩).1
  dsimp only at this
  grind
/-- Sight by a row of parts. -/
theorem Mp.sees_row {M : Mp} {a b : V3} {qs : List (Int × Int)} (ok : ∀ e ∈ qs, PartOk e) (up : Up qs) (z0 : ((0 : Int), (1 : Int)) ∈ qs) (z1 : ((1 : Int), (1 : Int)) ∈ qs)
    (ax : 0 ≤ a.x ∧ a.x < 32 * 65536) (ay : 0 ≤ a.y ∧ a.y < 32 * 65536) (az : 0 ≤ a.z ∧ a.z < 32 * 65536) (bx : 0 ≤ b.x ∧ b.x < 32 * 65536) (by_ : 0 ≤ b.y ∧ b.y < 32 * 65536) (bz : 0 ≤ b.z ∧ b.z < 32 * 65536)
    (hx : Hits a.x b.x qs) (hy : Hits a.y b.y qs) (hz : Hits a.z b.z qs) {X Y Z : Nat → Int} (hX : ∀ i, X i = atI a.x b.x (nth qs i).1 (nth qs i).2) (hY : ∀ i, Y i = atI a.y b.y (nth qs i).1 (nth qs i).2) (hZ : ∀ i, Z i = atI a.z b.z (nth qs i).1 (nth qs i).2) :
    M.Sees a b ↔ (∀ i, i < qs.length → M.Free (X i) (Y i) (Z i)) ∧ ∀ i, i + 1 < qs.length → M.Free (if b.x < a.x then X (i + 1) else X i) (if b.y < a.y then Y (i + 1) else Y i) (if b.z < a.z then Z (i + 1) else Z i) := by
  have hok : ∀ i, i < qs.length → PartOk (nth qs i) := fun i hi => by rw [nth_get hi]; exact ok _ (List.getElem_mem hi)
  have hr : Rises qs.length (fun i => valP (nth qs i)) := fun i hi => by
    dsimp only
    rw [nth_get (show i < qs.length by omega), nth_get hi]
    exact up.at (by omega) hi (by omega)
  obtain ⟨i0, h0, e0⟩ := List.mem_iff_getElem.1 z0
  obtain ⟨i1, h1, e1⟩ := List.mem_iff_getElem.1 z1
  have n0 : nth qs i0 = (0, 1) := by rw [nth_get h0, e0]
  have n1 : nth qs i1 = (1, 1) := by rw [nth_get h1, e1]
  have hn : 1 < qs.length := by
    apply Nat.not_le.1
    intro hle
    obtain rfl : i0 = i1 := by omega
    rw [n0] at n1
    exact absurd (congrArg Prod.fst n1) (by decide)
  have p0 : valP (nth qs 0) = 0 := by
    have k1 := hr.le (Nat.zero_le i0) h0
    try dsimp only at k1
    rw [n0, valP_0] at k1
    have k2 := (valP_01 (hok 0 (by omega))).1
    grind
  have p1 : valP (nth qs (qs.length - 1)) = 1 := by
    have k1 := hr.le (show i1 ≤ qs.length - 1 by omega) (by omega)
    try dsimp only at k1
    rw [n1, valP_1] at k1
    have k2 := (valP_01 (hok (qs.length - 1) (by omega))).2
    grind
  have tr : ∀ {f t : Int}, Hits f t qs → ∀ v : Rat, 0 ≤ v → v ≤ 1 → f ≠ t → Ed f t v → ∃ i, i < qs.length ∧ valP (nth qs i) = v := by
    intro f t h v v0 v1 hne ⟨j, j0, j1, hj⟩
    obtain ⟨e, he, hv⟩ := h hne j j0 (by omega) v v0 v1 hj
    obtain ⟨i, hi, rfl⟩ := List.mem_iff_getElem.1 he
    exact ⟨i, hi, by rw [nth_get hi]; exact hv⟩
  exact Mp.sees_parts (P := fun i => valP (nth qs i)) hn hr p0 p1 ax ay az bx by_ bz (tr hx) (tr hy) (tr hz)
    (fun i hi => by rw [hX i]; exact atI_in (hok i hi)) (fun i hi => by rw [hY i]; exact atI_in (hok i hi)) (fun i hi => by rw [hZ i]; exact atI_in (hok i hi))
end Go.Proofs.Ytfcaekboonnmaaa
