/- Layer 3 (bits): what the walks are told of slices that came in, out of the rows' own reading. -/
import Derived.Test.YthcmcjklhcfenaaBtA
import Derived.ProofKit
import Derived.OpenShut
import Derived.ShutString
import Derived.ChangeOld
import Derived.Below
import Derived.SliceStrings
import Derived.Lib.SmallJoins
namespace Go.Proofs.Ythcmcjklhcfenaa
open Go.ChangeShapes Go.WideShapes Go.ChangeAt Go.RowKit Go.Joins
set_option linter.unusedVariables false

theorem arg_of {W : World} {x : Addr} {len cap : Nat} {f : Nat → Value} (hl : len ≤ cap) (hm : cap ≤ maxLen) (hc : ∀ i, i < len → W.cell? (x.add i) = some (f i)) : Arg W (some x) len cap f := by
  refine ⟨hl, hm, ?_⟩
  by_cases h0 : len = 0
  · exact .inl h0
  · right
    obtain ⟨b, off, spot⟩ := x
    have h1 := hc 0 (by omega)
    have hspot : spot = none := by simpa [Addr.add] using World.cell?_spot h1
    subst hspot
    refine ⟨b, off, rfl, ?_, fun i hi => ?_⟩
    · have := World.block_lt_of_cell? _ _ h1; simpa [Addr.add] using this
    · rw [← Addr.add_lit]; exact hc i hi
/-- Numbers that fit their kind. -/
theorem argI_of {H : Type} {enc : TypeId × Value → H} {W : World} {spare : Nat → Bool} {held : Bool} {base : Nat} {a : Option Addr} {len cap : Nat} {d : DataW H} {ps : List MemPlace} {fuel : Nat} {t e : TypeId} {k : IntKind}
    (ht : Try.prog.underlying t = some (.slice e)) (he : Try.prog.underlying e = some (.int k)) (hc1 : Try.prog.cellsOf e = 1) (h0 : (Lit.int k 0).wf = true)
    (hs : ∀ b, spare b = true) (h : DataW.trod enc Try.prog W base spare held fuel t (Value.slice a len cap).cells.toList = some (d, ps)) : ∃ z : Nat → Int, (Arg W a len cap fun i => .int k (z i)) ∧ ∀ i, (Lit.int k (z i)).wf = true := by
  rcases open_ints ht he hc1 h with ⟨hcs, _⟩ | ⟨x, l, c, zs, hcs, _, hl, hm, hz, _, hcell, hwz⟩
  · simp [Value.cells] at hcs
    obtain ⟨rfl, rfl, rfl⟩ := hcs
    exact ⟨fun _ => 0, ⟨Nat.le_refl _, by unfold maxLen; omega, .inl rfl⟩, fun _ => h0⟩
  · simp [Value.cells] at hcs
    obtain ⟨rfl, rfl, rfl⟩ := hcs
    rw [if_pos (hs _)] at hz
    refine ⟨fun i => zs.getD i 0, arg_of hl hm (fun i hi => hcell i (by omega)), fun i => ?_⟩
    rcases Nat.lt_or_ge i zs.length with hi | hi
    · have e : zs.getD i 0 = zs[i] := by rw [List.getD_eq_getElem?_getD, List.getElem?_eq_getElem hi]; rfl
      simp only [e]; exact hwz _ (List.getElem_mem hi)
    · have e : zs.getD i 0 = 0 := by rw [List.getD_eq_getElem?_getD, List.getElem?_eq_none hi]; rfl
      simp only [e]; exact h0
end Go.Proofs.Ythcmcjklhcfenaa
