/- Layer 7 (mail): how boxes lie in memory; frames around channels. -/
import Derived.Test.YtllojhhplfdgkaaMlB
import Derived.Test.YtllojhhplfdgkaaGnV
namespace Go.Proofs.Ytllojhhplfdgkaa
open Go.Conc Go.RowKit
set_option linter.unusedVariables false
set_option linter.unusedSimpArgs false

theorem heap_setChan_other (w : World) (c k cap : Nat) (buf : Array Value) (cl : Bool) (s r : Nat) (tm : Bool) (h : k ≠ c) : (w.setChan c cap buf cl s r tm).heap[k]? = w.heap[k]? := by
  simp only [World.setChan]; rw [Array.getElem?_setIfInBounds_ne (by omega)]
theorem Fr.setChan {S : Nat → Prop} {a b : World} (h : Fr S a b) {c : Nat} (hc : S c) (cap : Nat) (buf : Array Value) (cl : Bool) (s r : Nat) (tm : Bool) : Fr S a (b.setChan c cap buf cl s r tm) :=
  ⟨h.os, h.tape, h.output, by rw [size_setChan]; exact h.size, fun i hi hn => (heap_setChan_other b c i cap buf cl s r tm (fun e => hn (by rw [e]; exact hc))).trans (h.block i hi hn)⟩
def ptrs (ps : List (Nat × Value)) : Array Value := (ps.map fun p => Value.pointer (some ⟨p.1, 0, none⟩)).toArray
theorem ptrs_size (ps : List (Nat × Value)) : (ptrs ps).size = ps.length := by simp [ptrs]
/-- A box that has these things, the first one first. -/
structure MBox (T E : TypeId) (w : World) (S : Nat → Prop) (b c cap : Nat) (xs : List Value) (lost : Nat) : Prop where
  obj : w.heap[b]? = some (.cells #[.chan (some c), .int .i64 lost] T (0, 0))
  ch : ∃ (s r : Nat) (ps : List (Nat × Value)), w.heap[c]? = some (.chan cap (ptrs ps) false s r false) ∧ ps.map (·.2) = xs ∧ ∀ p ∈ ps, S p.1 ∧ p.1 ≠ b ∧ w.heap[p.1]? = some (.cells #[p.2] E (0, 0))
  inb : S b
  inc : S c
  lt : ∀ k, S k → k < w.heap.size
  le : xs.length ≤ cap
theorem MBox.keep {T E : TypeId} {w w' : World} {S S' : Nat → Prop} {b c cap : Nat} {xs : List Value} {lost : Nat} (h : MBox T E w S b c cap xs lost) (hf : Fr S' w w') (hd : ∀ k, S k → ¬ S' k) : MBox T E w' S b c cap xs lost := by
  have hk : ∀ k, S k → w'.heap[k]? = w.heap[k]? := fun k hk => hf.block k (h.lt k hk) (hd k hk)
  obtain ⟨s, r, ps, h1, h2, h3⟩ := h.ch
  refine ⟨by rw [hk b h.inb]; exact h.obj, ⟨s, r, ps, by rw [hk c h.inc]; exact h1, h2, fun p hp => ?_⟩, h.inb, h.inc, fun k hs => Nat.lt_of_lt_of_le (h.lt k hs) hf.size, h.le⟩
  obtain ⟨g1, g2, g3⟩ := h3 p hp
  exact ⟨g1, g2, by rw [hk _ g1]; exact g3⟩
theorem MBox.below {T E : TypeId} {w w' : World} {S : Nat → Prop} {b c cap : Nat} {xs : List Value} {lost : Nat} (h : MBox T E w S b c cap xs lost) (hf : Below w.heap.size w w') : MBox T E w' S b c cap xs lost :=
  h.keep (S' := fun _ => False) (Fr.of_below _ hf) (fun _ _ e => e)
theorem MBox.cells {T E : TypeId} {w : World} {S : Nat → Prop} {b c cap : Nat} {xs : List Value} {lost : Nat} (h : MBox T E w S b c cap xs lost) : w.cell? ⟨b, 0, none⟩ = some (.chan (some c)) ∧ w.cell? ⟨b, 1, none⟩ = some (.int .i64 lost) := by
  refine ⟨?_, ?_⟩ <;> rw [cell_of_row w b _ _ T (0, 0) h.obj] <;> rfl
theorem MBox.ne {T E : TypeId} {w : World} {S : Nat → Prop} {b c cap : Nat} {xs : List Value} {lost : Nat} (h : MBox T E w S b c cap xs lost) : b ≠ c := by
  obtain ⟨s, r, ps, h1, _, _⟩ := h.ch
  intro e; subst e; have := h.obj; rw [h1] at this; cases this
/-- Behind a Put that found room. -/
theorem MBox.put {T E : TypeId} {w : World} {S : Nat → Prop} {b c cap s r : Nat} {xs : List Value} {lost : Nat} {ps : List (Nat × Value)} {x : Value} (h : MBox T E w S b c cap xs lost) (hc : w.heap[c]? = some (.chan cap (ptrs ps) false s r false)) (h2 : ps.map (·.2) = xs) (h3 : ∀ p ∈ ps, S p.1 ∧ p.1 ≠ b ∧ w.heap[p.1]? = some (.cells #[p.2] E (0, 0))) (hr : xs.length < cap) :
    MBox T E ((w.alloc (.cells #[x] E)).setChan c cap ((ptrs ps).push (.pointer (some ⟨w.heap.size, 0, none⟩))) false (s + 1) r false) (fun k => S k ∨ k = w.heap.size) b c cap (xs ++ [x]) lost
      ∧ Fr S w ((w.alloc (.cells #[x] E)).setChan c cap ((ptrs ps).push (.pointer (some ⟨w.heap.size, 0, none⟩))) false (s + 1) r false) := by
  have hcl := h.lt c h.inc
  have hbl := h.lt b h.inb
  have hbc := h.ne
  have hk : ∀ k, k < w.heap.size → k ≠ c → ((w.alloc (.cells #[x] E)).setChan c cap ((ptrs ps).push (.pointer (some ⟨w.heap.size, 0, none⟩))) false (s + 1) r false).heap[k]? = w.heap[k]? := fun k hk hc => by
    rw [heap_setChan_other _ _ _ _ _ _ _ _ _ hc, Below.heap_alloc _ _ _ hk]
  refine ⟨⟨by rw [hk b hbl hbc]; exact h.obj, ⟨s + 1, r, ps ++ [(w.heap.size, x)], ?_, by rw [List.map_append, h2]; rfl, fun p hp => ?_⟩, .inl h.inb, .inl h.inc, fun k hs => ?_, by rw [List.length_append]; simp; omega⟩, ?_⟩
  · have e : ptrs (ps ++ [(w.heap.size, x)]) = (ptrs ps).push (.pointer (some ⟨w.heap.size, 0, none⟩)) := by simp [ptrs]
    rw [e]
    exact heap_setChan _ _ _ _ _ _ _ _ (by simp; omega)
  · rcases List.mem_append.1 hp with hp | hp
    · obtain ⟨g1, g2, g3⟩ := h3 p hp
      have hl := h.lt _ g1
      have hpc : p.1 ≠ c := by intro e; rw [e, hc] at g3; cases g3
      exact ⟨.inl g1, g2, by rw [hk _ hl hpc]; exact g3⟩
    · rw [List.mem_singleton] at hp; subst hp
      refine ⟨.inr rfl, by dsimp only; omega, ?_⟩
      rw [heap_setChan_other _ _ _ _ _ _ _ _ _ (by dsimp only; omega)]
      exact heap_alloc_new w _
  · rw [size_setChan, World.size_alloc]
    rcases hs with hs | hs
    · have := h.lt k hs; omega
    · omega
  · exact ((Fr.refl S w).alloc _).setChan h.inc _ _ _ _ _ _
/-- Behind a Put that found none. -/
theorem MBox.lose {T E : TypeId} {w : World} {S : Nat → Prop} {b c cap : Nat} {xs : List Value} {lost : Nat} (x : Value) (h : MBox T E w S b c cap xs lost) :
    MBox T E ((w.alloc (.cells #[x] E)).setCell ⟨b, 1, none⟩ (.int .i64 ((lost : Int) + 1))) S b c cap xs (lost + 1) ∧ Fr S w ((w.alloc (.cells #[x] E)).setCell ⟨b, 1, none⟩ (.int .i64 ((lost : Int) + 1))) := by
  have hf : Fr S w ((w.alloc (.cells #[x] E)).setCell ⟨b, 1, none⟩ (.int .i64 ((lost : Int) + 1))) := ((Fr.refl S w).alloc _).setCell (p := ⟨b, 1, none⟩) h.inb _
  have h' := h.below (w' := w.alloc (.cells #[x] E)) ((Below.refl _ _).alloc (Nat.le_refl _) _)
  generalize w.alloc (.cells #[x] E) = W at *
  refine ⟨?_, hf⟩
  obtain ⟨s, r, ps, h1, h2, h3⟩ := h'.ch
  refine ⟨?_, ⟨s, r, ps, by rw [Below.heap_setCell _ _ _ _ (fun e => h.ne e.symm)]; exact h1, h2, fun p hp => ?_⟩, h.inb, h.inc, fun k hk => by have := h'.lt k hk; simpa [World.setCell] using this, h.le⟩
  · rw [heap_set_same h'.obj]; simp
  · obtain ⟨g1, g2, g3⟩ := h3 p hp
    exact ⟨g1, g2, by rw [Below.heap_setCell _ _ _ _ g2]; exact g3⟩
/-- Behind a Take. -/
theorem MBox.take {T E : TypeId} {w : World} {S : Nat → Prop} {b c cap s r : Nat} {x : Value} {xs : List Value} {lost : Nat} {p : Nat × Value} {ps : List (Nat × Value)} (h : MBox T E w S b c cap (x :: xs) lost) (hc : w.heap[c]? = some (.chan cap (ptrs (p :: ps)) false s r false)) (h2 : ps.map (·.2) = xs) (h3 : ∀ q ∈ p :: ps, S q.1 ∧ q.1 ≠ b ∧ w.heap[q.1]? = some (.cells #[q.2] E (0, 0))) :
    MBox T E (w.setChan c cap ((ptrs (p :: ps)).extract 1 (ptrs (p :: ps)).size) false s (r + 1) false) S b c cap xs lost ∧ Fr S w (w.setChan c cap ((ptrs (p :: ps)).extract 1 (ptrs (p :: ps)).size) false s (r + 1) false) := by
  have e : (ptrs (p :: ps)).extract 1 (ptrs (p :: ps)).size = ptrs ps := by simp [ptrs]; rw [List.take_of_length_le (by simp)]
  rw [e]
  refine ⟨⟨by rw [heap_setChan_other _ _ _ _ _ _ _ _ _ h.ne]; exact h.obj, ⟨s, r + 1, ps, heap_setChan _ _ _ _ _ _ _ _ (h.lt c h.inc), h2, fun q hq => ?_⟩, h.inb, h.inc, fun k hs => by rw [size_setChan]; exact h.lt k hs, by have := h.le; simp at this; omega⟩, (Fr.refl S w).setChan h.inc _ _ _ _ _ _⟩
  obtain ⟨g1, g2, g3⟩ := h3 q (List.mem_cons_of_mem _ hq)
  have hpc : q.1 ≠ c := by intro e; rw [e, hc] at g3; cases g3
  exact ⟨g1, g2, by rw [heap_setChan_other _ _ _ _ _ _ _ _ _ hpc]; exact g3⟩
/-- A new one. -/
theorem MBox.new (T E : TypeId) (w : World) (cap : Nat) : MBox T E ((w.alloc (.chan cap #[] false 0 0 false)).alloc (.cells #[.chan (some w.heap.size), .int .i64 0] T)) (fun k => k = w.heap.size ∨ k = w.heap.size + 1) (w.heap.size + 1) w.heap.size cap [] 0 := by
  have e := heap_alloc_new (w.alloc (.chan cap #[] false 0 0 false)) (.cells #[.chan (some w.heap.size), .int .i64 0] T)
  rw [World.size_alloc] at e
  refine ⟨e, ⟨0, 0, [], ?_, rfl, by simp⟩, .inr rfl, .inl rfl, fun k hk => by rcases hk with hk | hk <;> simp <;> omega, Nat.zero_le _⟩
  rw [Below.heap_alloc _ _ _ (by simp)]
  exact heap_alloc_new w _
end Go.Proofs.Ytllojhhplfdgkaa
