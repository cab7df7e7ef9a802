/- Layer 2 (ring): how rings and tables lie in memory; frames. -/
import Derived.Test.YthcmcjklhcfenaaRows
import Derived.WalkKit
import Derived.WalkSpells
import Derived.WalkLawsBesides
import Derived.LoopTactic
import Derived.BigQuiet
import Derived.BigRegion
import Derived.Deep.QuietTactic
import Derived.Deep.DrawnRows
import Derived.Deep.RegionHeld3
import Derived.Deep.AppendLies
import Derived.Below
namespace Go.Proofs.Ythcmcjklhcfenaa
open Go.RowKit
set_option linter.unusedVariables false

theorem ret_int {k : IntKind} {a b : Int} (h : a = b) : Ending.returned (.int k a) = .returned (.int k b) := by rw [h]
theorem ret_bool {a b : Bool} (h : a = b) : Ending.returned (.bool a) = .returned (.bool b) := by rw [h]

/-- Of what was there, only blocks of S have turned. -/
structure Fr (S : Nat → Prop) (w w' : World) : Prop where
  os : w'.os = w.os
  tape : w'.tape = w.tape
  output : w'.output = w.output
  size : w.heap.size ≤ w'.heap.size
  block : ∀ k, k < w.heap.size → ¬ S k → w'.heap[k]? = w.heap[k]?
theorem Fr.refl (S : Nat → Prop) (w : World) : Fr S w w := ⟨rfl, rfl, rfl, Nat.le_refl _, fun _ _ _ => rfl⟩
theorem Fr.trans {S S' : Nat → Prop} {a b c : World} (h : Fr S a b) (k : Fr S' b c) (hs : ∀ k, k < a.heap.size → S' k → S k) : Fr S a c :=
  ⟨k.os.trans h.os, k.tape.trans h.tape, k.output.trans h.output, Nat.le_trans h.size k.size, fun i hi hn => (k.block i (Nat.lt_of_lt_of_le hi h.size) (fun e => hn (hs i hi e))).trans (h.block i hi hn)⟩
theorem Fr.mono {S S' : Nat → Prop} {a b : World} (h : Fr S a b) (hs : ∀ k, k < a.heap.size → S k → S' k) : Fr S' a b :=
  ⟨h.os, h.tape, h.output, h.size, fun i hi hn => h.block i hi (fun e => hn (hs i hi e))⟩
theorem Fr.below {S : Nat → Prop} {B : Nat} {a b : World} (h : Fr S a b) (hB : B ≤ a.heap.size) (hs : ∀ k, S k → B ≤ k) : Below B a b :=
  ⟨h.os, h.tape, h.output, h.size, fun i hi => h.block i (Nat.lt_of_lt_of_le hi hB) (fun e => by have := hs i e; omega)⟩
theorem Fr.of_below {a b : World} (S : Nat → Prop) (h : Below a.heap.size a b) : Fr S a b :=
  ⟨h.os, h.tape, h.output, h.size, fun i hi _ => h.block i hi⟩
theorem Fr.of_grown {S : Nat → Prop} {a b : World} {r : Option Nat} (h : a.grownBy b r) (hs : ∀ k, r = some k → S k) : Fr S a b :=
  ⟨h.os, h.tape, h.output, h.size, fun i hi hn => h.block i hi (fun e => hn (hs i e.symm))⟩
theorem Fr.setCell {S : Nat → Prop} {a b : World} (h : Fr S a b) {p : Addr} (hp : S p.block) (u : Value) : Fr S a (b.setCell p u) :=
  ⟨h.os, h.tape, h.output, by simpa [World.setCell] using h.size, fun i hi hn => (Below.heap_setCell _ _ _ _ (fun (e : i = p.block) => hn (by rw [e]; exact hp))).trans (h.block i hi hn)⟩
theorem Fr.alloc {S : Nat → Prop} {a b : World} (h : Fr S a b) (o : Obj) : Fr S a (b.alloc o) :=
  ⟨h.os, h.tape, h.output, by have := h.size; simp; omega, fun i hi hn => (Below.heap_alloc _ _ _ (Nat.lt_of_lt_of_le hi h.size)).trans (h.block i hi hn)⟩
theorem Fr.drew {S : Nat → Prop} {a b : World} (h : Fr S a b) : Fr S a b.drew := ⟨h.os, h.tape, h.output, h.size, h.block⟩

/-- A box of three fields, whose second one owns a row of elements of so many cells; all of it within S. -/
structure Box (T E : TypeId) (sz : Nat) (w : World) (S : Nat → Prop) (b : Nat) (m : Int) (n : Nat) (ys : List Value) (f : Int) (v : Value) : Prop where
  obj : w.heap[b]? = some (.cells #[.int .i64 m, v, .int .i64 f] T (0, 0))
  own : w.ownsRow 0 E sz v n ys
  inb : S b
  inr : ∀ k, v.ownBlock = some k → S k ∧ k ≠ b
  lt : ∀ k, S k → k < w.heap.size
  one : ∀ u ∈ ys, u.oneCell' = true
theorem Box.keep {T E sz : Nat} {w w' : World} {S S' : Nat → Prop} {b : Nat} {m : Int} {n : Nat} {ys : List Value} {f : Int} {v : Value} (h : Box T E sz w S b m n ys f v) (hf : Fr S' w w') (hd : ∀ k, S k → ¬ S' k) : Box T E sz w' S b m n ys f v := by
  refine ⟨?_, ?_, h.inb, h.inr, fun k hk => Nat.lt_of_lt_of_le (h.lt k hk) hf.size, h.one⟩
  · rw [hf.block b (h.lt b h.inb) (hd b h.inb)]; exact h.obj
  · refine ⟨h.own.1, ?_⟩
    rcases h.own.2 with hn | ⟨g, cap, cur, hv, hb, hg, r⟩
    · exact .inl hn
    · refine .inr ⟨g, cap, cur, hv, hb, ?_, r⟩
      have := (h.inr g (by rw [hv]; rfl)).1
      rw [hf.block g (h.lt g this) (hd g this)]; exact hg
theorem Box.cells {T E sz : Nat} {w : World} {S : Nat → Prop} {b : Nat} {m : Int} {n : Nat} {ys : List Value} {f : Int} {v : Value} (h : Box T E sz w S b m n ys f v) :
    w.cell? ⟨b, 0, none⟩ = some (.int .i64 m) ∧ w.cell? ⟨b, 1, none⟩ = some v ∧ w.cell? ⟨b, 2, none⟩ = some (.int .i64 f) ∧ b < w.heap.size := by
  refine ⟨?_, ?_, ?_, h.lt b h.inb⟩ <;> rw [cell_of_row w b _ _ T (0, 0) h.obj] <;> rfl
/-- What its row's value looks like. -/
theorem Box.form {T E sz : Nat} {w : World} {S : Nat → Prop} {b : Nat} {m : Int} {n : Nat} {ys : List Value} {f : Int} {v : Value} (h : Box T E sz w S b m n ys f v) :
    ∃ a cap, v = .slice a n cap ∧ n ≤ cap ∧ cap ≤ maxLen := by
  rcases h.own.2 with ⟨rfl, rfl⟩ | ⟨g, cap, cur, rfl, _, _, h1, h2, _⟩
  · exact ⟨none, 0, rfl, Nat.le_refl _, by unfold maxLen; omega⟩
  · exact ⟨_, cap, rfl, h1, h2⟩
/-- A cell of its row. -/
theorem Box.at {T E sz : Nat} {w : World} {S : Nat → Prop} {b : Nat} {m : Int} {n : Nat} {ys : List Value} {f : Int} {v : Value} (h : Box T E sz w S b m n ys f v) {j : Nat} (hj : j < ys.length) :
    ∃ g cap, v = .slice (some ⟨g, 0, none⟩) n cap ∧ n ≤ cap ∧ cap ≤ maxLen ∧ g ≠ b ∧ S g ∧ g < w.heap.size ∧ (∀ i (hi : i < ys.length), w.cell? ⟨g, i, none⟩ = some ys[i]) ∧ (∀ i, i < ys.length → w.frozen? ⟨g, i, none⟩ = false) := by
  have hl := h.own.1
  rcases h.own.2 with ⟨rfl, rfl⟩ | ⟨g, cap, cur, rfl, _, hg, h1, h2, h3, h4⟩
  · simp at hl; rw [hl] at hj; simp at hj
  · have hr := h.inr g rfl
    refine ⟨g, cap, rfl, h1, h2, hr.2, hr.1, h.lt g hr.1, fun i hi => ?_, fun i hi => ?_⟩
    · rw [cell_of_row w g i cur E (0, 0) hg]
      have hi' : i < n * sz := by omega
      have : ys[i]? = cur.toList[i]? := by rw [← h4, List.getElem?_take, if_pos hi']
      rw [List.getElem?_eq_getElem hi] at this
      simpa using this.symm
    · simp [World.frozen?, hg]
theorem below_drewN {B : Nat} (w : World) (n : Nat) : Below B w (w.drewN n) := ⟨rfl, rfl, rfl, Nat.le_refl _, fun _ _ => rfl⟩
theorem Fr.drewN {S : Nat → Prop} {a b : World} (h : Fr S a b) (n : Nat) : Fr S a (b.drewN n) := ⟨h.os, h.tape, h.output, h.size, h.block⟩
theorem heap_set_same {w : World} {b i : Nat} {cs : Array Value} {T : TypeId} {fr : Nat × Nat} (h : w.heap[b]? = some (.cells cs T fr)) (u : Value) : (w.setCell ⟨b, i, none⟩ u).heap[b]? = some (.cells (cs.setIfInBounds i u) T fr) := by
  simp [World.setCell, Array.getElem?_modify, h]
/-- The box behind an append to its row, the new row's value stored. -/
theorem Box.grown {T E sz : Nat} {w W w1 : World} {S : Nat → Prop} {b : Nat} {m : Int} {n n' : Nat} {ys ys' : List Value} {f : Int} {v v' : Value} (h : Box T E sz w S b m n ys f v) (hW : Fr (fun _ => False) w W) (hg : W.grownBy w1 v.ownBlock)
    (ho : w1.ownsRow 0 E sz v' n' ys') (hv : ∀ k, v'.ownBlock = some k → v.ownBlock = some k ∨ w.heap.size ≤ k) (h1 : ∀ u ∈ ys', u.oneCell' = true) :
    Box T E sz (w1.setCell ⟨b, 1, none⟩ v') (fun k => S k ∨ (w.heap.size ≤ k ∧ k < w1.heap.size)) b m n' ys' f v' ∧ Fr S w (w1.setCell ⟨b, 1, none⟩ v') := by
  have hb := h.lt b h.inb
  have hs := Nat.le_trans hW.size hg.size
  have hne : some b ≠ v.ownBlock := fun e => (h.inr b e.symm).2 rfl
  have ho1 : w1.heap[b]? = some (.cells #[.int .i64 m, v, .int .i64 f] T (0, 0)) := by
    rw [hg.block b (Nat.lt_of_lt_of_le hb hW.size) hne, hW.block b hb (fun e => e)]; exact h.obj
  have hnb : ∀ k, v'.ownBlock = some k → k ≠ b := fun k hk e => by
    rcases hv k hk with h2 | h2
    · exact (h.inr k h2).2 e
    · omega
  refine ⟨⟨?_, ?_, .inl h.inb, fun k hk => ⟨?_, hnb k hk⟩, fun k hk => ?_, h1⟩, ?_⟩
  · rw [heap_set_same ho1]; rfl
  · refine ⟨ho.1, ?_⟩
    rcases ho.2 with hn | ⟨g, cap, cur, hv', hb', hg', r⟩
    · exact .inl hn
    · refine .inr ⟨g, cap, cur, hv', hb', ?_, r⟩
      have := hnb g (by rw [hv']; rfl)
      rw [Below.heap_setCell _ _ _ _ this]; exact hg'
  · rcases hv k hk with h2 | h2
    · exact .inl (h.inr k h2).1
    · exact .inr ⟨h2, (ho.lt k hk).2⟩
  · have e : (w1.setCell ⟨b, 1, none⟩ v').heap.size = w1.heap.size := by simp [World.setCell]
    rw [e]
    rcases hk with hk | hk
    · exact Nat.lt_of_lt_of_le (h.lt k hk) hs
    · exact hk.2
  · refine Fr.setCell (p := ⟨b, 1, none⟩) ?_ h.inb _
    exact ⟨hg.os.trans hW.os, hg.tape.trans hW.tape, hg.output.trans hW.output, hs, fun i hi hn => (hg.block i (Nat.lt_of_lt_of_le hi hW.size) (fun e => hn (h.inr i e.symm).1)).trans (hW.block i hi (fun e => e))⟩
/-- Its cells behind an append to its row. -/
theorem Box.grown_cells {T E sz : Nat} {w W w1 : World} {S : Nat → Prop} {b : Nat} {m : Int} {n : Nat} {ys : List Value} {f : Int} {v : Value} (h : Box T E sz w S b m n ys f v) (hW : Fr (fun _ => False) w W) (hg : W.grownBy w1 v.ownBlock) :
    w1.cell? ⟨b, 0, none⟩ = some (.int .i64 m) ∧ w1.cell? ⟨b, 1, none⟩ = some v ∧ w1.cell? ⟨b, 2, none⟩ = some (.int .i64 f) ∧ w1.frozen? ⟨b, 1, none⟩ = false := by
  have hb := h.lt b h.inb
  have hne : some b ≠ v.ownBlock := fun e => (h.inr b e.symm).2 rfl
  have ho1 : w1.heap[b]? = some (.cells #[.int .i64 m, v, .int .i64 f] T (0, 0)) := by
    rw [hg.block b (Nat.lt_of_lt_of_le hb hW.size) hne, hW.block b hb (fun e => e)]; exact h.obj
  refine ⟨?_, ?_, ?_, ?_⟩
  · rw [cell_of_row w1 b _ _ T (0, 0) ho1]; rfl
  · rw [cell_of_row w1 b _ _ T (0, 0) ho1]; rfl
  · rw [cell_of_row w1 b _ _ T (0, 0) ho1]; rfl
  · simp [World.frozen?, ho1]
theorem Box.thaw {T E sz : Nat} {w : World} {S : Nat → Prop} {b : Nat} {m : Int} {n : Nat} {ys : List Value} {f : Int} {v : Value} (h : Box T E sz w S b m n ys f v) (i : Nat) : w.frozen? ⟨b, i, none⟩ = false := by
  simp [World.frozen?, h.obj]
theorem Fr.start_alloc (S : Nat → Prop) (w : World) (q : Nat) (o : Obj) : Fr S w ((w.drewN q).alloc o) := ((Fr.refl S w).drewN q).alloc o
/-- The box behind a store into its row. -/
theorem Box.setRow {T E sz : Nat} {w : World} {S : Nat → Prop} {b : Nat} {m : Int} {n : Nat} {ys : List Value} {f : Int} {g cap : Nat} (h : Box T E sz w S b m n ys f (.slice (some ⟨g, 0, none⟩) n cap)) {j : Nat} (hj : j < ys.length) (u : Value) (h1 : u.oneCell' = true) :
    Box T E sz (w.setCell ⟨g, j, none⟩ u) S b m n (ys.set j u) f (.slice (some ⟨g, 0, none⟩) n cap) := by
  have hgb := (h.inr g rfl).2
  refine ⟨?_, ?_, h.inb, h.inr, fun k hk => ?_, fun x hx => ?_⟩
  · rw [Below.heap_setCell _ _ _ _ (fun e => hgb e.symm)]; exact h.obj
  · refine ⟨by rw [List.length_set]; exact h.own.1, ?_⟩
    rcases h.own.2 with ⟨hn, _⟩ | ⟨g', cap', cur, hv, hb, hg, h2, h3, h4, h5⟩
    · cases hn
    · cases hv
      refine .inr ⟨g, cap, cur.setIfInBounds j u, rfl, hb, heap_set_same hg u, h2, h3, by simpa using h4, ?_⟩
      rw [Array.toList_setIfInBounds, List.take_set, h5]
  · have := h.lt k hk; simpa [World.setCell] using this
  · rcases List.mem_or_eq_of_mem_set hx with hx | rfl
    · exact h.one x hx
    · exact h1
/-- The box behind a store into its third field. -/
theorem Box.setThird {T E sz : Nat} {w : World} {S : Nat → Prop} {b : Nat} {m : Int} {n : Nat} {ys : List Value} {f : Int} {v : Value} (h : Box T E sz w S b m n ys f v) (f' : Int) :
    Box T E sz (w.setCell ⟨b, 2, none⟩ (.int .i64 f')) S b m n ys f' v := by
  refine ⟨?_, ?_, h.inb, h.inr, fun k hk => by have := h.lt k hk; simpa [World.setCell] using this, h.one⟩
  · rw [heap_set_same h.obj]; rfl
  · refine ⟨h.own.1, ?_⟩
    rcases h.own.2 with hn | ⟨g, cap, cur, hv, hb, hg, r⟩
    · exact .inl hn
    · refine .inr ⟨g, cap, cur, hv, hb, ?_, r⟩
      have := (h.inr g (by rw [hv]; rfl)).2
      rw [Below.heap_setCell _ _ _ _ this]; exact hg
theorem Box.drewN {T E sz : Nat} {w : World} {S : Nat → Prop} {b : Nat} {m : Int} {n : Nat} {ys : List Value} {f : Int} {v : Value} (h : Box T E sz w S b m n ys f v) (q : Nat) : Box T E sz (w.drewN q) S b m n ys f v :=
  h.keep (S' := fun _ => False) (Fr.drewN (Fr.refl _ _) q) (fun _ _ e => e)
theorem own_new {v : Value} {g H B n c : Nat} (h : v.ownBlock = some g ∨ g = H) (hB : B ≤ H) : ∀ k, (Value.slice (some ⟨g, 0, none⟩) n c).ownBlock = some k → v.ownBlock = some k ∨ B ≤ k := by
  intro k hk
  have e : g = k := Option.some.inj hk
  subst e
  exact h.imp id (fun e => by omega)
/-- What a cell holds, unnamed. -/
def rd (w : World) (b o : Nat) : Value := (w.cell? ⟨b, o, none⟩).getD undef
theorem rd_of {w : World} {b o : Nat} {v : Value} (h : w.cell? ⟨b, o, none⟩ = some v) : w.cell? ⟨b, o, none⟩ = some (rd w b o) := by unfold rd; rw [h]; rfl
theorem rd_is {w : World} {b o : Nat} {v : Value} (h : w.cell? ⟨b, o, none⟩ = some v) : rd w b o = v := by unfold rd; rw [h]; rfl
theorem cell_set_other {w : World} {b o g j : Nat} (u : Value) (h : g ≠ b) : (w.setCell ⟨g, j, none⟩ u).cell? ⟨b, o, none⟩ = w.cell? ⟨b, o, none⟩ :=
  World.cell?_of_block (a := ⟨b, o, none⟩) (Below.heap_setCell _ _ _ _ (fun e => h e.symm))
theorem frozen_set {w : World} {p q : Addr} (u : Value) : (w.setCell p u).frozen? q = w.frozen? q := World.frozen?_setCell ..
/-- What S may have become. -/
def Sub (w : World) (S S' : Nat → Prop) : Prop := ∀ k, S' k → S k ∨ w.heap.size ≤ k
end Go.Proofs.Ythcmcjklhcfenaa
