/- Layer 5 (message): bits add up; rows of messages appended. -/
import Derived.Test.YtnflpgbmhllnaaaMsZ
namespace Go.Proofs.Ytnflpgbmhllnaaa
open Go.RowKit Go.Shelf
set_option linter.unusedVariables false
set_option linter.unusedSimpArgs false

/-- How many bits messages have. -/
def bl (ms : List Msg) : Nat := 5 + (ms.map fun m => (carr m).enc.length).sum
theorem bl_is (ms : List Msg) : (encJ ms ms.length).length = bl ms := by
  unfold encJ bl
  rw [List.take_length, List.length_append, bitsN_length, List.length_flatMap]
theorem bl_append (xs ys : List Msg) : bl (xs ++ ys) = bl xs + (ys.map fun m => (carr m).enc.length).sum := by
  unfold bl; rw [List.map_append, List.sum_append]; omega
theorem bl_one (xs : List Msg) (m : Msg) : bl (xs ++ [m]) = bl xs + (carr m).enc.length := by rw [bl_append]; simp
theorem bl_take (ms : List Msg) {i j : Nat} (h : i ≤ j) : bl (ms.take i) ≤ bl (ms.take j) := by
  have e : ms.take j = ms.take i ++ (ms.take j).drop i := by
    have h1 := (List.take_append_drop i (ms.take j)).symm
    rw [List.take_take, Nat.min_eq_left h] at h1
    exact h1
  rw [e, bl_append]; omega
theorem packs_size {ys : List Nat} {f : Nat} {ms : List Msg} (h : Packs ys f (encJ ms ms.length)) : ys.length = (bl ms + 7) / 8 := by
  have h1 := h.len; have h2 := h.few; rw [bl_is] at h1; omega
theorem bl_zero {ms : List Msg} (h : encE ms = 0) : bl ms ≤ 8192 := by have := (encE_zero h).2.2; rwa [bl_is] at this
theorem encE_of {ms : List Msg} (h1 : ms.all rgtB = true) (h2 : ms.length ≤ 16) (h3 : bl ms ≤ 8192) : encE ms = 0 := by
  unfold encE; rw [if_pos h1, if_pos h2, if_pos (by rw [bl_is]; exact h3)]
theorem encE_five {ms : List Msg} (h1 : ms.all rgtB = true) (h : encE ms ≠ 0) : encE ms = 5 ∧ (16 < ms.length ∨ 8192 < bl ms) := by
  unfold encE at *
  rw [if_pos h1] at *
  by_cases h2 : ms.length ≤ 16
  · rw [if_pos h2] at *
    by_cases h3 : (encJ ms ms.length).length ≤ 8192
    · rw [if_pos h3] at h; exact (h rfl).elim
    · rw [if_neg h3]; rw [bl_is] at h3; exact ⟨rfl, .inr (by omega)⟩
  · rw [if_neg h2]; exact ⟨rfl, .inl (by omega)⟩
theorem encE_take {ms : List Msg} (h : encE ms = 0) (i : Nat) : encE (ms.take i) = 0 := by
  obtain ⟨h1, h2, _⟩ := encE_zero h
  refine encE_of (List.all_eq_true.2 fun m hm => List.all_eq_true.1 h1 m (List.mem_of_mem_take hm)) (by rw [List.length_take]; omega) ?_
  have h3 := bl_zero h
  have h4 := bl_take ms (i := i) (j := i + ms.length) (by omega)
  rw [List.take_of_length_le (show ms.length ≤ i + ms.length by omega)] at h4
  omega
theorem bl_full (ms : List Msg) (i : Nat) : bl (ms.take i) ≤ bl ms := by
  have h4 := bl_take ms (i := i) (j := i + ms.length) (by omega)
  rwa [List.take_of_length_le (show ms.length ≤ i + ms.length by omega)] at h4
theorem all_snoc {ms : List Msg} {m : Msg} (h1 : ms.all rgtB = true) (h2 : rgtB m = true) : (ms ++ [m]).all rgtB = true := by simp [h1, h2]
theorem all_one {m : Msg} (h2 : rgtB m = true) : ([m] : List Msg).all rgtB = true := by simp [h2]
theorem bl_single (m : Msg) : bl [m] = 5 + (carr m).enc.length := by simp [bl]
theorem ArgM.take {w : World} {p : Option Addr} {cap : Nat} {ms : List Msg} {q : Nat → Option Addr × Nat} (h : ArgM w p cap ms q) (i : Nat) : ArgM w p cap (ms.take i) q := by
  have hl : (ms.take i).length ≤ ms.length := by rw [List.length_take]; omega
  have hm : ∀ k, k < (ms.take i).length → mg (ms.take i) k = mg ms k := fun k hk => by
    unfold mg
    rw [List.getD_eq_getElem?_getD, List.getD_eq_getElem?_getD, List.getElem?_take_of_lt (by rw [List.length_take] at hk; omega)]
  refine ⟨Nat.le_trans hl h.le, h.most, ?_, fun k hk => ?_, fun k hk => ?_⟩
  · rcases h.cells with h0 | ⟨b, o, hp, hlt, hc⟩
    · exact .inl (by omega)
    · refine .inr ⟨b, o, hp, hlt, fun k hk j v hv => hc k (by omega) j v ?_⟩
      unfold mgC at *
      rw [hm k hk] at hv; exact hv
  · rw [hm k hk]; exact h.bytes k (by omega)
  · rw [hm k hk]; exact h.ok k (by omega)
/-- The values of a row's bytes. -/
def qv (ms : List Msg) (q : Nat → Option Addr × Nat) (i : Nat) : Value := .slice (q i).1 (mg ms i).bytes.length (q i).2
theorem own_empty_m (w : World) : (w.alloc (.cells #[] 40)).ownsRow w.heap.size 40 23 (.slice (some ⟨w.heap.size, 0, none⟩) 0 0) 0 [] :=
  ⟨rfl, .inr ⟨w.heap.size, 0, #[], rfl, Nat.le_refl _, heap_alloc_new w _, Nat.le_refl _, by unfold maxLen; omega, by simp, rfl⟩⟩
theorem append_nothing_m (w : World) (a : Addr) (p : Option Addr) (cap : Nat) (ty : TypeId) : (Builtin.append_ #[22, 22] ty #[.slice (some a) 0 0, .slice p 0 cap]).run Try.prog w = .ok (.slice (some a) 0 0) w := by
  obtain ⟨i0, hi, hz0, hz1, hz2⟩ := info_parts info_msg
  cases p <;> simp [Builtin.append_, run_underlying Try.underlying22, sizeOf, typeInfo, hi, storeCells, Builtin.lenOf, Builtin.firstCells, go_sem]
/-- A row of messages appended to nothing. -/
theorem append_ms {w : World} {p : Option Addr} {cap : Nat} {ms : List Msg} {q : Nat → Option Addr × Nat} {B g : Nat} (ty : TypeId) (h : ArgM w p cap ms q) (h0 : w.ownsRow B 40 23 (.slice (some ⟨g, 0, none⟩) 0 0) 0 []) (hB : B ≤ w.heap.size) (hl : ms.length ≤ 100) :
    ∃ v' w', (Builtin.append_ #[22, 22] ty #[.slice (some ⟨g, 0, none⟩) 0 0, .slice p ms.length cap]).run Try.prog w = .ok v' w' ∧ w'.ownsRow B 40 23 v' ms.length (msCells ms (qv ms q)) ∧ Fr (fun k => k = g) w w' ∧ ∀ k, v'.ownBlock = some k → k = g ∨ w.heap.size ≤ k := by
  by_cases hn : ms.length = 0
  · have hm : ms = [] := List.length_eq_zero_iff.1 hn
    subst hm
    exact ⟨_, w, append_nothing_m w _ p cap ty, h0, Fr.refl _ _, fun k hk => by cases hk; exact .inl rfl⟩
  · obtain ⟨b, o, rfl, hb, hc⟩ := h.at (i := 0) (by omega)
    obtain ⟨i0, hi, hz0, hz1, hz2⟩ := info_parts info_msg
    have hcl : (msCells ms (qv ms q)).length = ms.length * 23 := fm_len _ _ (fun i => rfl)
    have hnews : ∀ j u, (msCells ms (qv ms q))[j]? = some u → w.cell? ((⟨b, o, none⟩ : Addr).add j) = some u := by
      intro j u hu
      have hj : j < ms.length * 23 := by rw [← hcl]; exact (List.getElem?_eq_some_iff.1 hu).1
      have hi' : j / 23 < ms.length := by omega
      have hr : j % 23 < (mgC ms q (j / 23)).size := by rw [mgC_size]; omega
      obtain ⟨x, hx⟩ : ∃ x, (mgC ms q (j / 23))[j % 23]? = some x := ⟨_, Array.getElem?_eq_getElem hr⟩
      have h1 : (msCells ms (qv ms q))[j / 23 * 23 + j % 23]? = some x := fm_get ms.length _ (fun i => rfl) hi' (by have hx2 : (msgC (mg ms (j / 23)) (qv ms q (j / 23)))[j % 23]? = some x := hx; simpa using hx2)
      rw [show j / 23 * 23 + j % 23 = j by omega, hu] at h1
      cases h1
      have h2 := hc (j / 23) hi' (j % 23) _ hx
      rw [Addr.add_lit, show o + j = o + j / 23 * 23 + j % 23 by omega]
      exact h2
    have hone : ∀ u ∈ msCells ms (qv ms q), u.oneCell' = true := by
      intro u hu
      unfold msCells at hu
      obtain ⟨i, _, hi2⟩ := List.mem_flatMap.1 hu
      exact msgC_one _ _ _ _ u hi2
    obtain ⟨g', cap', w', hr, ho, hg, hgg, _⟩ := run_append_lies (P := Try.prog) w 22 ty B 40 i0 _ 23 168 Try.underlying22 hi hz0 hz1 hz2 rfl (by decide) _ 0 [] h0 ⟨b, o, none⟩ ms.length cap (msCells ms (qv ms q)) hcl hnews hone (by omega) (by unfold maxLen; omega) (by omega) hB w.heap.size rfl
    rw [Nat.zero_add, List.nil_append] at ho
    rw [Nat.zero_add] at hr
    refine ⟨_, w', hr, ho, Fr.of_grown hg (fun k e => by cases e; rfl), fun k hk => ?_⟩
    cases hk
    rcases hgg with e | e
    · cases e; exact .inl rfl
    · exact .inr (by show w.heap.size ≤ g'; omega)
/-- One message more, that lies somewhere. -/
theorem own_app {w : World} {B b : Nat} {v : Value} {ms : List Msg} {q : Nat → Value} {m : Msg} {p : Option Addr} {n c : Nat} (ty : TypeId) (h : w.ownsRow B 40 23 v ms.length (msCells ms q)) (hm : w.heap[b]? = some (.cells (msgC m (.slice p n c)) 40 (0, 0))) (hB : B ≤ w.heap.size) (hl : ms.length ≤ 100) :
    ∃ v' w', (Builtin.append_ #[22, 22] ty #[v, .slice (some ⟨b, 0, none⟩) 1 1]).run Try.prog w = .ok v' w' ∧
      w'.ownsRow B 40 23 v' (ms ++ [m]).length (msCells (ms ++ [m]) (snocQ q ms.length (.slice p n c))) ∧ Fr (fun k => v.ownBlock = some k) w w' := by
  have hone := msgC_one m p n c
  obtain ⟨i0, hi, hz0, hz1, hz2⟩ := info_parts info_msg
  obtain ⟨u, hu⟩ : ∃ u, Value.slice p n c = u := ⟨_, rfl⟩
  rw [hu] at hone hm ⊢
  have hnew : ∀ j x, (msgC m u).toList[j]? = some x → w.cell? ((⟨b, 0, none⟩ : Addr).add j) = some x := by
    intro j x hx
    rw [Addr.add_lit, Nat.zero_add, cell_of_row _ _ _ _ _ _ hm]
    simpa using hx
  have hsz : (msgC m u).toList.length = 1 * 23 := rfl
  obtain ⟨g, cap', w', hrun, ho, hg, hgg, _⟩ := run_append_lies (P := Try.prog) w 22 ty B 40 i0 _ 23 168 Try.underlying22 hi hz0 hz1 hz2 rfl (by decide) v ms.length (msCells ms q) h ⟨b, 0, none⟩ 1 1 (msgC m u).toList hsz hnew hone (by omega) (by unfold maxLen; omega) (by omega) hB w.heap.size rfl
  rw [← msCells_snoc] at ho
  exact ⟨_, w', hrun, by rw [List.length_append, List.length_singleton]; exact ho, Fr.of_grown hg (fun k e => e)⟩
end Go.Proofs.Ytnflpgbmhllnaaa
