/- Generic: rows of values of one cell each, of whatever type. -/
import Derived.Test.YthcmcjklhcfenaaBtA
import Derived.Lib.SliceRun
import Derived.Lib.AppendZeros
namespace Go.Proofs.Ythcmcjklhcfenaa
open Go.RowKit Go.Shelf
set_option linter.unusedVariables false
set_option linter.unusedSimpArgs false

/-- A row that is new, and one's own. -/
structure RowV (E : TypeId) (w : World) (B : Nat) (v : Value) (ys : List Value) : Prop where
  own : w.ownsRow B E 1 v ys.length ys
  one : ∀ u ∈ ys, u.oneCell' = true
theorem RowV.base {E : TypeId} {w : World} {B C : Nat} {v : Value} {ys : List Value} (h : RowV E w B v ys) (hC : C ≤ B) : RowV E w C v ys := by
  refine ⟨⟨h.own.1, ?_⟩, h.one⟩
  rcases h.own.2 with hn | ⟨g, cap, cur, hv, hb, r⟩
  · exact .inl hn
  · exact .inr ⟨g, cap, cur, hv, Nat.le_trans hC hb, r⟩
theorem RowV.frN {E : TypeId} {w w' : World} {B : Nat} {S : Nat → Prop} {v : Value} {ys : List Value} (h : RowV E w B v ys) (hf : Fr S w w') (hS : ∀ k, v.ownBlock = some k → ¬ S k) : RowV E w' B v ys := by
  refine ⟨⟨h.own.1, ?_⟩, h.one⟩
  rcases h.own.2 with hn | ⟨g, cap, cur, rfl, hb, hg, r⟩
  · exact .inl hn
  · refine .inr ⟨g, cap, cur, rfl, hb, ?_, r⟩
    rw [hf.block g (Array.getElem?_eq_some_iff.1 hg).1 (hS g rfl)]; exact hg
theorem RowV.fr {E : TypeId} {w w' : World} {B : Nat} {S : Nat → Prop} {v : Value} {ys : List Value} (h : RowV E w B v ys) (hf : Fr S w w') (hS : ∀ k, S k → k < B) : RowV E w' B v ys :=
  h.frN hf fun k hk e => by have := (h.own.lt k hk).1; have := hS k e; omega
theorem RowV.below {E : TypeId} {w w' : World} {B : Nat} {v : Value} {ys : List Value} (h : RowV E w B v ys) (hf : Below w.heap.size w w') : RowV E w' B v ys := h.fr (S := fun _ => False) (Fr.of_below _ hf) (fun _ e => e.elim)
theorem RowV.lt {E : TypeId} {w : World} {B : Nat} {v : Value} {ys : List Value} (h : RowV E w B v ys) : ∀ k, v.ownBlock = some k → B ≤ k ∧ k < w.heap.size := h.own.lt
theorem RowV.arg {E : TypeId} {w : World} {B : Nat} {v : Value} {ys : List Value} (h : RowV E w B v ys) {f : Nat → Value} (hf : ∀ i, i < ys.length → ys[i]? = some (f i)) : ∃ p cap, v = .slice p ys.length cap ∧ Arg w p ys.length cap f := by
  rcases h.own.2 with ⟨rfl, hl⟩ | ⟨g, cap, cur, rfl, hb, hg, h1, h2, h3, h4⟩
  · exact ⟨none, 0, by rw [hl], by omega, by unfold maxLen; omega, .inl hl⟩
  · refine ⟨_, cap, rfl, h1, h2, .inr ⟨g, 0, rfl, (Array.getElem?_eq_some_iff.1 hg).1, fun i hi => ?_⟩⟩
    rw [Nat.zero_add, cell_of_row w g i cur E (0, 0) hg]
    have hi' : i < ys.length * 1 := by omega
    have : ys[i]? = cur.toList[i]? := by rw [← h4, List.getElem?_take, if_pos hi']
    rw [hf i hi] at this
    simpa using this.symm
theorem RowV.form {E : TypeId} {w : World} {B : Nat} {v : Value} {ys : List Value} (h : RowV E w B v ys) : ∃ p cap, v = .slice p ys.length cap ∧ ys.length ≤ cap ∧ cap ≤ maxLen := by
  obtain ⟨p, cap, hv, ha⟩ := h.arg (f := fun i => ys.getD i undef) (fun i hi => by simp [hi])
  exact ⟨p, cap, hv, ha.le, ha.most⟩
theorem RowV.argN {E : TypeId} {w : World} {B n cap : Nat} {p : Option Addr} {ys : List Value} (h : RowV E w B (.slice p n cap) ys) {f : Nat → Value} (hn : ys.length = n) (hf : ∀ i, i < n → ys[i]? = some (f i)) : Arg w p n cap f := by
  subst hn
  obtain ⟨_, _, he, ha⟩ := h.arg hf
  cases he
  exact ha
theorem rowV_nil (E : TypeId) (w : World) (B : Nat) : RowV E w B (.slice none 0 0) [] := ⟨World.ownsRow_nil _ _ _ _, by simp⟩
theorem rowV_new (E : TypeId) (w : World) (k : Nat) (cs : Array Value) (hk : cs.size = k) (hm : k ≤ maxLen) : RowV E (w.alloc (.cells cs E)) w.heap.size (.slice (some ⟨w.heap.size, 0, none⟩) 0 k) [] :=
  ⟨⟨rfl, .inr ⟨w.heap.size, k, cs, rfl, Nat.le_refl _, heap_alloc_new w _, Nat.zero_le _, hm, by omega, rfl⟩⟩, by simp⟩
/-- What is to be known of a type of elements. -/
structure El (t E : TypeId) : Prop where
  un : Try.prog.underlying t = some (.slice E)
  info : ∃ (i : TypeInfo) (z : Value) (by_ : Nat), Try.prog.info? E = some i ∧ i.zero = some z ∧ i.size = 1 ∧ i.bytes = by_ ∧ z.cells.size = 1 ∧ by_ ≤ 16
/-- Values appended to a row of one's own. -/
theorem append_rowV {t E : TypeId} (he : El t E) {w : World} {B : Nat} {v : Value} {ys zs : List Value} {p : Option Addr} {cap : Nat} (ty : TypeId) (h : RowV E w B v ys) {f : Nat → Value} (ha : Arg w p zs.length cap f) (hf : ∀ i, i < zs.length → zs[i]? = some (f i)) (h1 : ∀ u ∈ zs, u.oneCell' = true) (hB : B ≤ w.heap.size) (hl : ys.length + zs.length ≤ 100000) :
    ∃ v' w', (Builtin.append_ #[t, t] ty #[v, .slice p zs.length cap]).run Try.prog w = .ok v' w' ∧ RowV E w' B v' (ys ++ zs) ∧ w.grownBy w' v.ownBlock ∧ (∀ k, v'.ownBlock = some k → v.ownBlock = some k ∨ w.heap.size ≤ k) := by
  obtain ⟨i0, z0, by0, hi, hz0, hz1, hz2, hz3, hz4⟩ := he.info
  by_cases h0 : zs.length = 0
  · have hy : zs = [] := List.length_eq_zero_iff.1 h0
    subst hy
    obtain ⟨q, c, rfl, hq, _⟩ := h.form
    refine ⟨_, w, ?_, by rw [List.append_nil]; exact h, ⟨rfl, rfl, rfl, Nat.le_refl _, fun _ _ _ => rfl⟩, fun k hk => .inl hk⟩
    cases p <;> cases q <;> simp [Builtin.append_, run_underlying he.un, sizeOf, typeInfo, hi, hz1, storeCells, Builtin.lenOf, Builtin.firstCells, go_sem, hq]
  · obtain ⟨b, o, rfl, hb, hc⟩ := ha.at (i := 0) (by omega)
    have hnews : ∀ j u, zs[j]? = some u → w.cell? ((⟨b, o, none⟩ : Addr).add j) = some u := by
      intro j u hu
      obtain ⟨hj, _⟩ := List.getElem?_eq_some_iff.1 hu
      rw [Addr.add_lit, hc j hj, ← hf j hj, hu]
    obtain ⟨g, cap', w', hr, ho, hg, hat, hgl⟩ := run_append_lies (P := Try.prog) w t ty B E i0 z0 1 by0 he.un hi hz0 hz1 hz2 hz3 (by decide) v ys.length ys h.own ⟨b, o, none⟩ zs.length cap zs (by omega) hnews h1 (by omega) (by unfold maxLen; omega) (by
      have : (ys.length + zs.length) * by0 ≤ 100000 * 16 := Nat.mul_le_mul hl hz4
      omega) (by omega) w.heap.size rfl
    refine ⟨_, w', hr, ⟨?_, ?_⟩, hg, own_new hat (Nat.le_refl _)⟩
    · rw [List.length_append]; exact ho
    · intro u hu
      rcases List.mem_append.1 hu with hu | hu
      · exact h.one u hu
      · exact h1 u hu
/-- A row, appended to a new one. -/
theorem append_copyV {t E : TypeId} (he : El t E) {w : World} {zs : List Value} {p : Option Addr} {cap : Nat} (ty : TypeId) {f : Nat → Value} (ha : Arg w p zs.length cap f) (hf : ∀ i, i < zs.length → zs[i]? = some (f i)) (h1 : ∀ u ∈ zs, u.oneCell' = true) (hl : zs.length ≤ 100000) :
    ∃ v' w', (Builtin.append_ #[t, t] ty #[.slice (some ⟨w.heap.size, 0, none⟩) 0 0, .slice p zs.length cap]).run Try.prog (w.alloc (.cells #[] E)) = .ok v' w' ∧ RowV E w' w.heap.size v' zs ∧ Below w.heap.size w w' := by
  have hb : Below w.heap.size w (w.alloc (.cells #[] E)) := (Below.refl _ _).alloc (Nat.le_refl _) _
  obtain ⟨v', w', hr, h2, hg, _⟩ := append_rowV he ty (rowV_new E w 0 #[] rfl (by unfold maxLen; omega)) (ha.keep hb) hf h1 (by simp) (by simpa using hl)
  refine ⟨v', w', hr, by rw [List.nil_append] at h2; exact h2, ?_⟩
  exact ⟨hg.os.trans hb.os, hg.tape.trans hb.tape, hg.output.trans hb.output, Nat.le_trans hb.size hg.size, fun i hi => (hg.block i (Nat.lt_of_lt_of_le hi hb.size) (fun e => by cases e; exact absurd hi (Nat.lt_irrefl _))).trans (hb.block i hi)⟩
theorem grown_fr {w w1 w2 : World} {S : Nat → Prop} {r : Option Nat} (hb : Fr S w w1) (hg : w1.grownBy w2 r) (hr : ∀ k, r = some k → k < w.heap.size → S k) : Fr S w w2 :=
  ⟨hg.os.trans hb.os, hg.tape.trans hb.tape, hg.output.trans hb.output, Nat.le_trans hb.size hg.size, fun i hi hn => (hg.block i (Nat.lt_of_lt_of_le hi hb.size) (fun e => hn (hr i e.symm hi))).trans (hb.block i hi hn)⟩
theorem Fr.from_alloc {S : Nat → Prop} (w : World) (o : Obj) : Fr S w (w.alloc o) := (Fr.refl S w).alloc o
/-- One thing appended to a row of one's own. -/
theorem append_oneV {t E : TypeId} (he : El t E) {w : World} {B : Nat} {v : Value} {ys : List Value} (x : Value) (ty : TypeId) (h : RowV E w B v ys) (h1 : x.oneCell' = true) (hB : B ≤ w.heap.size) (hl : ys.length + 1 ≤ 100000) :
    ∃ v' w', (Builtin.append_ #[t, t] ty #[v, .slice (some ⟨w.heap.size, 0, none⟩) 1 1]).run Try.prog (w.alloc (.cells #[x] E)) = .ok v' w' ∧ RowV E w' B v' (ys ++ [x]) ∧ (w.alloc (.cells #[x] E)).grownBy w' v.ownBlock ∧ (∀ k, v'.ownBlock = some k → v.ownBlock = some k ∨ w.heap.size ≤ k) ∧ ∀ S : Nat → Prop, (∀ k, v.ownBlock = some k → S k) → Fr S w w' := by
  have ha : Arg (w.alloc (.cells #[x] E)) (some ⟨w.heap.size, 0, none⟩) [x].length 1 (fun _ => x) :=
    ⟨Nat.le_refl _, by unfold maxLen; omega, .inr ⟨w.heap.size, 0, rfl, by simp, fun i hi => by
      have : i = 0 := by simp at hi; omega
      subst this
      rw [cell_of_row _ _ _ _ E (0, 0) (heap_alloc_new w _)]; rfl⟩⟩
  have hx : ∀ i, i < [x].length → [x][i]? = some x := fun i hi => by
    have : i = 0 := by simp at hi; omega
    subst this; rfl
  obtain ⟨v', w', hr, h2, hg, h3⟩ := append_rowV he ty (h.below ((Below.refl _ _).alloc (Nat.le_refl _) _)) ha hx (by simpa using h1) (by simp; omega) (by simpa using hl)
  exact ⟨v', w', hr, h2, hg, fun k hk => (h3 k hk).imp id (fun e => by simp at e; omega), fun S hS => grown_fr (Fr.from_alloc w _) hg (fun k hk _ => hS k hk)⟩
theorem make_rowV {t E : TypeId} (he : El t E) (n : Nat) (hn : n ≤ 100000) (w : World) : ∃ w', (Instr.makeSlice t (.int .i64 0) (.int .i64 (n : Int))).run Try.prog w = .ok (.slice (some ⟨w.heap.size, 0, none⟩) 0 n) w' ∧ RowV E w' w.heap.size (.slice (some ⟨w.heap.size, 0, none⟩) 0 n) [] ∧ Below w.heap.size w w' := by
  obtain ⟨i0, z0, by0, hi, hz0, hz1, hz2, hz3, hz4⟩ := he.info
  obtain ⟨w', h1, h2, hg⟩ := run_make_own (P := Try.prog) w w.heap.size t E i0 z0 1 he.un hi hz0 hz1 .i64 .i64 n (by
    have : i0.bytes * n ≤ 16 * 100000 := Nat.mul_le_mul (by omega) hn
    omega) (by unfold maxLen; omega) (Nat.le_refl _)
  exact ⟨w', h1, ⟨h2, by simp⟩, ⟨hg.os, hg.tape, hg.output, hg.size, fun k hk => hg.block k hk (fun e => by cases e)⟩⟩
end Go.Proofs.Ythcmcjklhcfenaa
