/- Layer 2 (ring): steps that came in, out of the rows' own reading (for RingTablePlays). -/
import Derived.Test.YtechkkidebkadaaRtC
import Derived.Test.YtechkkidebkadaaLwArg
import Derived.Deep.SlicePairs
namespace Go.Proofs.Ytechkkidebkadaa
open Go.ChangeShapes Go.WideShapes Go.ChangeAt Go.RowKit Go.Joins
set_option linter.unusedVariables false

theorem step_desc : ∃ f0 f1 f2 : Field, Try.prog.underlying 58 = some (.struct #[f0, f1, f2]) ∧ f0.offset = 0 ∧ f1.offset = 1 ∧ f2.offset = 2 ∧ f0.type = 3 ∧ f1.type = 3 ∧ f2.type = 3 := ⟨_, _, _, Try.underlying58, rfl, rfl, rfl, rfl, rfl, rfl⟩
set_option maxRecDepth 100000 in
theorem argT_of {H : Type} {enc : TypeId × Value → H} {W : World} {spare : Nat → Bool} {held : Bool} {base : Nat} {a : Option Addr} {len cap : Nat} {d : DataW H} {ps : List MemPlace} {fuel : Nat}
    (hs : ∀ b, spare b = true) (h : DataW.trod enc Try.prog W base spare held fuel 52 (Value.slice a len cap).cells.toList = some (d, ps)) : ∃ (q0 q1 q2 : Nat → Int), ArgT W a len cap q0 q1 q2 := by
  obtain ⟨f0, f1, f2, he, o0, o1, o2, t0, t1, t2⟩ := step_desc
  have ce : Try.prog.cellsOf 58 = 3 := by kernel_rfl
  have k1 : Try.prog.cellsOf 3 = 1 := by kernel_rfl
  rcases Deep.open_slice Try.underlying52 h with ⟨hcs, _⟩ | ⟨x, l, c, m, n, D, Pl, hcs, _, hl, hm, hmm, _, hx⟩
  · simp [Value.cells] at hcs
    obtain ⟨rfl, rfl, rfl⟩ := hcs
    exact ⟨fun _ => 0, fun _ => 0, fun _ => 0, ⟨Nat.le_refl _, by unfold maxLen; omega, .inl rfl⟩⟩
  · simp [Value.cells] at hcs
    obtain ⟨rfl, rfl, rfl⟩ := hcs
    rw [if_pos (hs _)] at hmm
    have each : ∀ i, ∃ q : Int × Int × Int, (i < len → W.cell? (x.add (i * 3)) = some (.int .i64 q.1) ∧ W.cell? (x.add (i * 3 + 1)) = some (.int .i64 q.2.1) ∧ W.cell? (x.add (i * 3 + 2)) = some (.int .i64 q.2.2)) := by
      intro i
      by_cases hi : i < len
      · obtain ⟨cs', h1, h2⟩ := hx i (by omega)
        rw [ce] at h1
        obtain ⟨_, hlen, hcell⟩ := World.cells?_some h1
        obtain ⟨xs, k, hk, hxy, _, hxl, hf⟩ := DataW.trod_struct he h2
        match xs, hxl, cs', hlen with
        | [y0, y1, y2], _, [v0, v1, v2], _ =>
          have g0 := hf 0 f0 rfl
          have g1 := hf 1 f1 rfl
          have g2 := hf 2 f2 rfl
          simp [o0, o1, o2, t0, t1, t2, k1] at g0 g1 g2
          obtain ⟨n0, e0, _, w0⟩ := DataW.trod_int Try.underlying3 g0
          obtain ⟨n1, e1, _, w1⟩ := DataW.trod_int Try.underlying3 g1
          obtain ⟨n2, e2, _, w2⟩ := DataW.trod_int Try.underlying3 g2
          cases e0; cases e1; cases e2
          have c0 := hcell 0 (by omega)
          have c1 := hcell 1 (by omega)
          have c2 := hcell 2 (by omega)
          rw [Deep.add_add] at c0 c1 c2
          exact ⟨(n0, n1, n2), fun _ => ⟨by simpa using c0, by simpa using c1, by simpa using c2⟩⟩
      · exact ⟨(0, 0, 0), fun e => absurd e hi⟩
    refine ⟨fun i => (each i).choose.1, fun i => (each i).choose.2.1, fun i => (each i).choose.2.2, ⟨hl, hm, ?_⟩⟩
    by_cases h0 : len = 0
    · exact .inl h0
    · right
      obtain ⟨b, off, spot⟩ := x
      have h1 := ((each 0).choose_spec (by omega)).1
      have hspot : spot = none := by simpa [Addr.add] using World.cell?_spot h1
      subst hspot
      refine ⟨b, off, rfl, ?_, fun i hi => ?_⟩
      · have := World.block_lt_of_cell? _ _ h1; simpa [Addr.add] using this
      · obtain ⟨g0, g1, g2⟩ := (each i).choose_spec hi
        exact ⟨by rw [← Addr.add_lit]; exact g0, by rw [Nat.add_assoc, ← Addr.add_lit]; exact g1, by rw [Nat.add_assoc, ← Addr.add_lit]; exact g2⟩
end Go.Proofs.Ytechkkidebkadaa
