/- Layer 9 (grid), no program: a row of parts with one part more. -/
import Derived.Test.YtfcaekboonnmaaaGrX
namespace Go.Proofs.Ytfcaekboonnmaaa
set_option linter.unusedVariables false
set_option linter.unusedSimpArgs false

/-- A part as a number. -/
def valP (e : Int × Int) : Rat := (e.1 : Rat) / e.2
theorem valP_mul {e : Int × Int} (h : PartOk e) : valP e * e.2 = e.1 ∧ (0 : Rat) < e.2 := by
  have hq : (0 : Rat) < (e.2 : Rat) := by have := cast_lt h.2.2.1; simpa using this
  exact ⟨by unfold valP; rw [Rat.div_def, Rat.mul_assoc, Rat.inv_mul_cancel _ (by grind), Rat.mul_one], hq⟩
theorem valP_01 {e : Int × Int} (h : PartOk e) : 0 ≤ valP e ∧ valP e ≤ 1 := by
  obtain ⟨m, hq⟩ := valP_mul h
  have h0 := cast_le h.1
  have h1 := cast_le h.2.1
  constructor
  · apply Rat.not_lt.1
    intro hl
    have := Rat.mul_lt_mul_of_pos_right hl hq
    grind
  · apply Rat.not_lt.1
    intro hl
    have := Rat.mul_lt_mul_of_pos_right hl hq
    grind
theorem lessP_iff {a b : Int × Int} (ha : PartOk a) (hb : PartOk b) : LessP a b ↔ valP a < valP b := by
  obtain ⟨ma, qa⟩ := valP_mul ha
  obtain ⟨mb, qb⟩ := valP_mul hb
  have hqq : (0 : Rat) < (a.2 : Rat) * b.2 := Rat.mul_pos qa qb
  have e1 : ((a.1 * b.2 : Int) : Rat) = valP a * ((a.2 : Rat) * b.2) := by rw [Rat.intCast_mul, ← ma]; grind
  have e2 : ((b.1 * a.2 : Int) : Rat) = valP b * ((a.2 : Rat) * b.2) := by rw [Rat.intCast_mul, ← mb]; grind
  unfold LessP
  constructor
  · intro h
    have h' := cast_lt h
    rw [e1, e2] at h'
    apply Rat.not_le.1
    intro hle
    have := Rat.mul_le_mul_of_nonneg_right hle (Rat.le_of_lt hqq)
    grind
  · intro h
    apply lt_cast
    rw [e1, e2]
    exact Rat.mul_lt_mul_of_pos_right h hqq
def Up (ps : List (Int × Int)) : Prop := ps.Pairwise fun a b => valP a < valP b
theorem Up.at {ps : List (Int × Int)} (h : Up ps) {i j : Nat} (hi : i < ps.length) (hj : j < ps.length) (hij : i < j) : valP ps[i] < valP ps[j] := List.pairwise_iff_getElem.1 h i j hi hj hij
/-- What is so with one part more. -/
theorem Ins.ok {ps qs : List (Int × Int)} {x : Int × Int} (h : Ins ps x qs) (hp : ∀ e ∈ ps, PartOk e) (hx : PartOk x) (hr : Up ps) :
    (∀ e ∈ qs, PartOk e) ∧ Up qs ∧ (∀ e ∈ ps, e ∈ qs) ∧ (∃ f ∈ qs, valP f = valP x) ∧ qs.length ≤ ps.length + 1 ∧ ps.length ≤ qs.length := by
  cases h with
  | there k hk h1 h2 =>
    have ho := hp _ (List.getElem_mem hk)
    rw [lessP_iff ho hx] at h1
    rw [lessP_iff hx ho] at h2
    exact ⟨hp, hr, fun e he => he, ⟨_, List.getElem_mem hk, by grind⟩, by omega, Nat.le_refl _⟩
  | new k hk h1 h2 =>
    have lo : ∀ a ∈ ps.take k, valP a < valP x := by
      intro a ha
      obtain ⟨j, hj, rfl⟩ := List.mem_iff_getElem.1 ha
      rw [List.length_take] at hj
      rw [List.getElem_take]
      exact (lessP_iff (hp _ (List.getElem_mem (by omega))) hx).1 (h1 j (by omega) (by omega))
    have hi : ∀ b ∈ ps.drop k, valP x < valP b := by
      intro b hb
      obtain ⟨j, hj, rfl⟩ := List.mem_iff_getElem.1 hb
      rw [List.length_drop] at hj
      rw [List.getElem_drop]
      have h3 := (lessP_iff hx (hp _ (List.getElem_mem (show k < ps.length by omega)))).1 (h2 (by omega))
      by_cases e : j = 0
      · subst e; exact h3
      · have := hr.at (i := k) (j := k + j) (by omega) (by omega) (by omega)
        grind
    refine ⟨?_, ?_, ?_, ⟨x, by simp, rfl⟩, by simp; omega, by simp; omega⟩
    · intro e he
      rcases List.mem_append.1 he with he | he
      · exact hp e (List.mem_of_mem_take he)
      · rcases List.mem_cons.1 he with rfl | he
        · exact hx
        · exact hp e (List.mem_of_mem_drop he)
    · refine List.pairwise_append.2 ⟨List.Pairwise.sublist (List.take_sublist _ _) hr, List.pairwise_cons.2 ⟨hi, List.Pairwise.sublist (List.drop_sublist _ _) hr⟩, ?_⟩
      intro a ha b hb
      rcases List.mem_cons.1 hb with rfl | hb
      · exact lo a ha
      · exact Std.lt_trans (lo a ha) (hi b hb)
    · intro e he
      rw [← List.take_append_drop k ps] at he
      rcases List.mem_append.1 he with he | he
      · exact List.mem_append.2 (.inl he)
      · exact List.mem_append.2 (.inr (List.mem_cons.2 (.inr he)))
end Go.Proofs.Ytfcaekboonnmaaa
