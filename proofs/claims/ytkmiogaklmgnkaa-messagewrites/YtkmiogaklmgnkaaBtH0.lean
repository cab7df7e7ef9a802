/- Layer 3 (bits): steps of writers, what one byte is. -/
import Derived.Test.YtkmiogaklmgnkaaBtG
namespace Go.Proofs.Ytkmiogaklmgnkaa
open Go.RowKit Go.Shelf
set_option linter.unusedVariables false

theorem WrAt.step {w w' : World} {S S' : Nat → Prop} {B b : Nat} {bs : List Bool} (h : WrAt w' S' b bs) (hf : Fr S w w') (hS : From B S) (hB : B ≤ w.heap.size) : Below B w w' := hf.below hB hS.le
/-- What is new: a writer. -/
theorem from_one (w : World) : From w.heap.size (fun k => k = w.heap.size) := ⟨fun k e => by omega⟩
theorem Row.one {w : World} {B : Nat} {v : Value} {y : Nat} (h : Row w B v [y]) : ∃ p cap, v = .slice (some p) 1 cap ∧ 1 ≤ cap ∧ cap ≤ maxLen ∧ w.cell? p = some (.int .u8 (y : Int)) := by
  obtain ⟨p, cap, rfl, ha⟩ := h.arg
  obtain ⟨b, o, rfl, _, hc⟩ := ha.at (i := 0) (by simp)
  exact ⟨_, cap, rfl, ha.le, ha.most, by have := hc 0 (by simp); simpa using this⟩
theorem Fr.cell {S : Nat → Prop} {w w' : World} (h : Fr S w w') {p : Addr} {v : Value} (hc : w.cell? p = some v) (hS : ¬ S p.block) : w'.cell? p = some v :=
  (World.cell?_of_block (a := p) (h.block _ (World.block_lt_of_cell? _ _ hc) hS)).trans hc
end Go.Proofs.Ytkmiogaklmgnkaa
