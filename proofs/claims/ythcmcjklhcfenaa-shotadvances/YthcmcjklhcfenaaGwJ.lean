/- Layer 9 (grid): a copy of a map's cells, and one of them turned. -/
import Derived.Test.YthcmcjklhcfenaaGwI
import Derived.Test.YthcmcjklhcfenaaGnV
namespace Go.Proofs.Ythcmcjklhcfenaa
open Go.RowKit Go.Shelf
set_option linter.unusedVariables false
set_option linter.unusedSimpArgs false

theorem elB : El 22 4 := by
  obtain ⟨i, hi, h⟩ := Option.map_eq_some_iff.1 info_bool
  simp only [Prod.mk.injEq] at h
  exact ⟨Try.underlying22, i, .bool false, 1, hi, h.1, h.2.1, h.2.2, rfl, by omega⟩
/-- Cells that lie in a row of their own. -/
structure Bs (w : World) (g N cap : Nat) (f : Nat → Bool) : Prop where
  le : N ≤ cap
  most : cap ≤ maxLen
  row : ∃ cur : Array Value, w.heap[g]? = some (.cells cur 4 (0, 0)) ∧ ∀ i, i < N → cur[i]? = some (.bool (f i))
theorem Bs.lt {w : World} {g N cap : Nat} {f : Nat → Bool} (h : Bs w g N cap f) : g < w.heap.size := by obtain ⟨cur, hg, _⟩ := h.row; exact (Array.getElem?_eq_some_iff.1 hg).1
theorem Bs.arg {w : World} {g N cap : Nat} {f : Nat → Bool} (h : Bs w g N cap f) : Arg w (some ⟨g, 0, none⟩) N cap fun i => .bool (f i) := by
  obtain ⟨cur, hg, hc⟩ := h.row
  exact ⟨h.le, h.most, .inr ⟨g, 0, rfl, h.lt, fun i hi => by rw [Nat.zero_add, cell_of_row w g i cur 4 (0, 0) hg]; exact hc i hi⟩⟩
theorem Bs.keep {w w' : World} {g N cap : Nat} {f : Nat → Bool} (h : Bs w g N cap f) (hb : Below w.heap.size w w') : Bs w' g N cap f := by
  obtain ⟨cur, hg, hc⟩ := h.row
  exact ⟨h.le, h.most, cur, by rw [hb.block g h.lt]; exact hg, hc⟩
theorem Bs.other {w : World} {g N cap : Nat} {f : Nat → Bool} (h : Bs w g N cap f) {b o : Nat} (hb : g ≠ b) (u : Value) : Bs (w.setCell ⟨b, o, none⟩ u) g N cap f := by
  obtain ⟨cur, hg, hc⟩ := h.row
  exact ⟨h.le, h.most, cur, by rw [Below.heap_setCell _ _ _ _ hb]; exact hg, hc⟩
theorem Bs.cell {w : World} {g N cap : Nat} {f : Nat → Bool} (h : Bs w g N cap f) {i : Nat} (hi : i < N) : w.cell? ⟨g, i, none⟩ = some (.bool (f i)) ∧ w.frozen? ⟨g, i, none⟩ = false := by
  obtain ⟨cur, hg, hc⟩ := h.row
  exact ⟨by rw [cell_of_row w g i cur 4 (0, 0) hg]; exact hc i hi, by simp [World.frozen?, hg]⟩
def turnAt (f : Nat → Bool) (k : Nat) (b : Bool) : Nat → Bool := fun i => if i = k then b else f i
theorem Bs.set {w : World} {g N cap : Nat} {f : Nat → Bool} (h : Bs w g N cap f) {k : Nat} (hk : k < N) (b : Bool) : Bs (w.setCell ⟨g, k, none⟩ (.bool b)) g N cap (turnAt f k b) := by
  obtain ⟨cur, hg, hc⟩ := h.row
  refine ⟨h.le, h.most, cur.setIfInBounds k (.bool b), heap_set_same hg _, fun i hi => ?_⟩
  have hs : k < cur.size := by
    have := hc k hk
    exact (Array.getElem?_eq_some_iff.1 this).1
  unfold turnAt
  by_cases e : i = k
  · subst e; rw [if_pos rfl]; simp [hs]
  · rw [if_neg e, Array.getElem?_setIfInBounds_ne (by omega)]; exact hc i hi
theorem copyB {w : World} {p : Option Addr} {cap N : Nat} {f : Nat → Bool} (ty : TypeId) (ha : Arg w p N cap fun i => .bool (f i)) (hN : N ≤ 32768) (h0 : 0 < N) :
    ∃ g cap' w', (Builtin.append_ #[22, 22] ty #[.slice (some ⟨w.heap.size, 0, none⟩) 0 0, .slice p N cap]).run Try.prog (w.alloc (.cells #[] 4)) = .ok (.slice (some ⟨g, 0, none⟩) N cap') w' ∧ w.heap.size ≤ g ∧ Bs w' g N cap' f ∧ Below w.heap.size w w' := by
  have hl : ((List.range N).map fun i => Value.bool (f i)).length = N := by simp
  obtain ⟨v', w', hr, hrow, hb⟩ := append_copyV elB (w := w) (zs := (List.range N).map fun i => Value.bool (f i)) (p := p) (cap := cap) ty (f := fun i => .bool (f i)) (by rw [hl]; exact ha) (fun i hi => by rw [hl] at hi; simp [hi]) (fun u hu => by obtain ⟨i, _, rfl⟩ := List.mem_map.1 hu; rfl) (by rw [hl]; omega)
  rw [hl] at hr
  rcases hrow.own.2 with ⟨rfl, h1⟩ | ⟨g, cap', cur, rfl, hbg, hg, h1, h2, h3, h4⟩
  · rw [hl] at h1; omega
  · rw [hl] at hr h1 h4
    refine ⟨g, cap', w', hr, hbg, ⟨h1, h2, cur, hg, fun i hi => ?_⟩, hb⟩
    have hi' : i < N * 1 := by omega
    have : ((List.range N).map fun i => Value.bool (f i))[i]? = cur.toList[i]? := by rw [← h4, List.getElem?_take, if_pos hi']
    simp [hi] at this
    simpa using this.symm
theorem O5.set3 {w : World} {b : Nat} {x0 x1 x2 x3 x4 : Value} (h : O5 w b x0 x1 x2 x3 x4) (y : Value) : O5 (w.setCell ⟨b, 3, none⟩ y) b x0 x1 x2 y x4 :=
  ⟨by have := heap_set_same (i := 3) h.obj y; simpa only [List.setIfInBounds_toArray, List.set_cons_zero, List.set_cons_succ] using this⟩
theorem O5.other {w : World} {b c o : Nat} {x0 x1 x2 x3 x4 : Value} (h : O5 w b x0 x1 x2 x3 x4) (hc : b ≠ c) (u : Value) : O5 (w.setCell ⟨c, o, none⟩ u) b x0 x1 x2 x3 x4 := ⟨by rw [Below.heap_setCell _ _ _ _ hc]; exact h.obj⟩
/-- A map's cells lie in no box that is laid later. -/
theorem Arg.fr {w w' : World} {S : Nat → Prop} {p : Option Addr} {n cap : Nat} {f : Nat → Value} (h : Arg w p n cap f) (hf : Fr S w w') (hS : ∀ b o, p = some ⟨b, o, none⟩ → ¬ S b) : Arg w' p n cap f := by
  refine ⟨h.le, h.most, ?_⟩
  rcases h.cells with h | ⟨b, o, hp, hlt, hc⟩
  · exact .inl h
  · exact .inr ⟨b, o, hp, Nat.lt_of_lt_of_le hlt hf.size, fun i hi => hf.cellK hlt (hS b o hp) (hc i hi)⟩
/-- A cell more that is solid. -/
theorem free_more {W D H : Int} {N k : Nat} {f : Nat → Bool} {x y z : Int} (h : (mpOf W D H N (turnAt f k true)).Free x y z) : (mpOf W D H N f).Free x y z := by
  obtain ⟨a, b, c, d, e, g, i, j⟩ := h
  refine ⟨a, b, c, d, e, g, i, ?_⟩
  unfold mpOf turnAt at j
  dsimp only at j
  split at j
  · cases j
  · exact j
theorem none_free {W D H : Int} {f : Nat → Bool} {x y z : Int} (h : (mpOf W D H 0 f).Free x y z) : False := by
  obtain ⟨⟨a1, a2, a3, a4, a5, a6, a7⟩, _⟩ := h
  obtain ⟨_, ⟨h1, _⟩, _⟩ := sized_mul ⟨a1, a2⟩ ⟨a3, a4⟩ ⟨a5, a6⟩
  unfold mpOf at a7 h1
  dsimp only at a7 h1
  omega
end Go.Proofs.Ythcmcjklhcfenaa
