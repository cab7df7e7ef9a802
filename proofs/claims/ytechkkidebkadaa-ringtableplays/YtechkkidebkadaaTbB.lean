/- Layer 2 (ring): tables: what a table has. -/
import Derived.Test.YtechkkidebkadaaTbD
namespace Go.Proofs.Ytechkkidebkadaa
open Go.RowKit
set_option linter.unusedVariables false

/-- A table that has these things by these ids; the last id that was given out. -/
def TableAt (T E : TypeId) (sz : Nat) (w : World) (S : Nat → Prop) (b m : Nat) (es : List (Nat × Value)) (L : Nat) : Prop :=
  ∃ v, Box T E sz w S b m es.length (flat es) L v ∧ 1 ≤ m ∧ m ≤ 1000 ∧ es.length ≤ m ∧ Rise es ∧ Fit sz es ∧ (∀ k (hk : k < es.length), 1 ≤ es[k].1 ∧ es[k].1 ≤ L) ∧ L ≤ 1000000
theorem TableAt.keep {T E sz : Nat} {w w' : World} {S S' : Nat → Prop} {b m L : Nat} {es : List (Nat × Value)} (h : TableAt T E sz w S b m es L) (hf : Fr S' w w') (hd : ∀ k, S k → ¬ S' k) : TableAt T E sz w' S b m es L := by
  obtain ⟨v, hb, r⟩ := h
  exact ⟨v, hb.keep hf hd, r⟩
theorem TableAt.below {T E sz : Nat} {w w' : World} {S : Nat → Prop} {b m L : Nat} {es : List (Nat × Value)} (h : TableAt T E sz w S b m es L) (hf : Below w.heap.size w w') : TableAt T E sz w' S b m es L :=
  h.keep (S' := fun _ => False) (Fr.of_below _ hf) (fun _ _ e => e)
theorem TableAt.lt {T E sz : Nat} {w : World} {S : Nat → Prop} {b m L : Nat} {es : List (Nat × Value)} (h : TableAt T E sz w S b m es L) : ∀ k, S k → k < w.heap.size := by
  obtain ⟨v, hb, _⟩ := h
  exact hb.lt
theorem table_new (T E sz : Nat) (w : World) (m : Nat) (h1 : 1 ≤ m) (h2 : m ≤ 1000) : TableAt T E sz (w.alloc (.cells #[.int .i64 m, .slice none 0 0, .int .i64 0] T)) (fun k => k = w.heap.size) w.heap.size m [] 0 := by
  refine ⟨.slice none 0 0, ⟨?_, World.ownsRow_nil _ _ _ _, rfl, by simp [Value.ownBlock], by simp, by simp [flat]⟩, h1, h2, by simp, fun i j hj => absurd hj (by simp), fun e he => absurd he (by simp), fun k hk => absurd hk (by simp), by omega⟩
  exact heap_alloc_new w _

theorem low_eq {es : List (Nat × Value)} {id : Int} {i k : Nat} (h : Low es id i) (hk : k < es.length) (hr : Rise es) (e : (es[k].1 : Int) = id) : i = k := by
  have h1 := (h.2 k hk)
  have h2 : ¬ k < i := fun hlt => by have := h1.1 hlt; omega
  rcases Nat.lt_or_ge i k with h3 | h3
  · have h4 := (h.2 i (by omega))
    have := hr i k hk h3
    have := h4.2 (by omega)
    omega
  · omega
theorem isAt_yes {es : List (Nat × Value)} {id : Int} {k : Nat} (hk : k < es.length) (e : (es[k].1 : Int) = id) : isAt es id k = true := by
  unfold isAt; rw [List.getElem?_eq_getElem hk]; simpa using e
theorem isAt_no {es : List (Nat × Value)} {id : Int} (i : Nat) (h : ∀ k (hk : k < es.length), (es[k].1 : Int) ≠ id) : isAt es id i = false := by
  unfold isAt
  rcases Nat.lt_or_ge i es.length with hi | hi
  · rw [List.getElem?_eq_getElem hi]; simpa using h i hi
  · rw [List.getElem?_eq_none hi]; rfl
/-- Is an id there, and where? -/
theorem there_or {es : List (Nat × Value)} (id : Int) : (∃ k, ∃ hk : k < es.length, (es[k].1 : Int) = id) ∨ ∀ k (hk : k < es.length), (es[k].1 : Int) ≠ id := by
  by_cases h : ∃ k, ∃ hk : k < es.length, (es[k].1 : Int) = id
  · exact .inl h
  · exact .inr fun k hk e => h ⟨k, hk, e⟩

theorem flat_set {es : List (Nat × Value)} (h : Fit 2 es) {k : Nat} (hk : k < es.length) {n : Nat} {x : Value} (hn : es[k].1 = n) (hx : x.cells = #[x]) (ho : es[k].2.cells = #[es[k].2]) : flat (es.set k (n, x)) = (flat es).set (k * 2 + 1) x := by
  have e : es = es.take k ++ es[k] :: es.drop (k + 1) := by rw [← List.drop_eq_getElem_cons hk, List.take_append_drop]
  have hl : (flat (es.take k)).length = k * 2 := by rw [flat_length (h.take k), List.length_take, Nat.min_eq_left (by omega)]
  rw [List.set_eq_take_append_cons_drop, if_pos hk, flat_append, flat_cons]
  have e2 : flat es = flat (es.take k) ++ ([.int .i64 es[k].1, es[k].2] ++ flat (es.drop (k + 1))) := by
    have : flat es = flat (es.take k ++ es[k] :: es.drop (k + 1)) := congrArg flat e
    rw [this, flat_append, flat_cons, ho]
  rw [e2, List.set_append_right _ _ (by omega), hl, Nat.add_sub_cancel_left, hx, hn]
  rfl
theorem flat_take {sz : Nat} {es : List (Nat × Value)} (h : Fit sz es) {k : Nat} (hk : k ≤ es.length) : (flat es).take (k * sz) = flat (es.take k) := by
  have e : flat es = flat (es.take k) ++ flat (es.drop k) := by rw [← flat_append, List.take_append_drop]
  have hl : (flat (es.take k)).length = k * sz := by rw [flat_length (h.take k), List.length_take, Nat.min_eq_left (by omega)]
  rw [e, ← hl]
  exact List.take_left
theorem flat_drop {sz : Nat} {es : List (Nat × Value)} (h : Fit sz es) {k : Nat} (hk : k ≤ es.length) : (flat es).drop (k * sz) = flat (es.drop k) := by
  have e : flat es = flat (es.take k) ++ flat (es.drop k) := by rw [← flat_append, List.take_append_drop]
  have hl : (flat (es.take k)).length = k * sz := by rw [flat_length (h.take k), List.length_take, Nat.min_eq_left (by omega)]
  rw [e, ← hl]
  exact List.drop_left
theorem Rise.eraseIdx {es : List (Nat × Value)} (h : Rise es) (k : Nat) : Rise (es.eraseIdx k) := by
  intro i j hj hij
  rw [List.length_eraseIdx] at hj
  simp only [List.getElem_eraseIdx]
  split <;> split
  · exact h _ _ _ hij
  · exact h _ _ _ (by omega)
  · omega
  · exact h _ _ _ (by omega)
theorem Fit.eraseIdx {sz : Nat} {es : List (Nat × Value)} (h : Fit sz es) (k : Nat) : Fit sz (es.eraseIdx k) := fun e he => h e (List.mem_of_mem_eraseIdx he)
theorem Rise.set {es : List (Nat × Value)} (h : Rise es) {k n : Nat} {x : Value} (hk : k < es.length) (hn : es[k].1 = n) : Rise (es.set k (n, x)) := by
  intro i j hj hij
  rw [List.length_set] at hj
  have := h i j hj hij
  simp only [List.getElem_set]
  split <;> split <;> (try subst_vars) <;> first | omega | exact this
theorem Rise.snoc {es : List (Nat × Value)} (h : Rise es) {L n : Nat} {x : Value} (hl : ∀ k (hk : k < es.length), es[k].1 ≤ L) (hn : L < n) : Rise (es ++ [(n, x)]) := by
  intro i j hj hij
  rw [List.length_append] at hj
  by_cases hj2 : j < es.length
  · rw [List.getElem_append_left hj2, List.getElem_append_left (by omega)]; exact h i j hj2 hij
  · have e : j = es.length := by simp at hj; omega
    subst e
    rw [List.getElem_append_right (Nat.le_refl _), List.getElem_append_left hij]
    have := hl i hij
    simp
    omega
/-- Where its rows lie. -/
theorem rows2_of_box {T E : TypeId} {w : World} {S : Nat → Prop} {b : Nat} {m L : Int} {es : List (Nat × Value)} {v : Value} (h : Box T E 2 w S b m es.length (flat es) L v) (hf : Fit 2 es) (hc : ∀ k (hk : k < es.length), es[k].2.cells = #[es[k].2]) :
    ∃ g cap a, v = .slice a es.length cap ∧ es.length ≤ cap ∧ cap ≤ maxLen ∧ (es = [] ∨ a = some ⟨g, 0, none⟩ ∧ Rows2 w g es) := by
  by_cases h0 : es = []
  · obtain ⟨a, cap, hv, h1, h2⟩ := h.form
    exact ⟨0, cap, a, hv, h1, h2, .inl h0⟩
  · have hpos : 0 < es.length := List.length_pos_iff.2 h0
    have hl := flat_length hf
    obtain ⟨g, cap, hv, h1, h2, h3, h4, h5, h6, h7⟩ := h.at (j := 0) (by omega)
    refine ⟨g, cap, _, hv, h1, h2, .inr ⟨rfl, ⟨fun k hk => ?_, fun k hk => ?_, h5⟩⟩⟩
    · have e1 := flat_at hf hk 0 (by omega)
      rw [Nat.add_zero, List.getElem?_eq_getElem (by omega)] at e1
      rw [h6 _ (by omega), e1]; rfl
    · have e1 := flat_at hf hk 1 (by omega)
      rw [List.getElem?_eq_getElem (by omega)] at e1
      rw [h6 _ (by omega), e1, hc k hk]; rfl
end Go.Proofs.Ytechkkidebkadaa
