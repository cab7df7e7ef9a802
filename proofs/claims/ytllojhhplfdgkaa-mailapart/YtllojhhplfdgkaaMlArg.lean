/- Layer 7 (mail): texts and ops that came in, out of the rows' own reading. -/
import Derived.Test.YtllojhhplfdgkaaBtArg
import Derived.Deep.SlicePairs
namespace Go.Proofs.Ytllojhhplfdgkaa
open Go.ChangeShapes Go.WideShapes Go.ChangeAt Go.RowKit Go.Joins
set_option linter.unusedVariables false
set_option linter.unusedSimpArgs false

theorem argS_of {H : Type} {enc : TypeId × Value → H} {W : World} {spare : Nat → Bool} {held : Bool} {base : Nat} {a : Option Addr} {len cap : Nat} {d : DataW H} {ps : List MemPlace} {fuel : Nat}
    (hs : ∀ b, spare b = true) (h : DataW.trod enc Try.prog W base spare held fuel 40 (Value.slice a len cap).cells.toList = some (d, ps)) : ∃ s : Nat → ByteArray, Arg W a len cap fun i => .string (s i) := by
  rcases open_strings Try.underlying40 Try.underlying9 (by kernel_rfl) h with ⟨hcs, _⟩ | ⟨x, l, c, ss, hcs, _, hl, hm, hz, _, hcell, _⟩
  · simp [Value.cells] at hcs
    obtain ⟨rfl, rfl, rfl⟩ := hcs
    exact ⟨fun _ => ByteArray.empty, ⟨Nat.le_refl _, by unfold maxLen; omega, .inl rfl⟩⟩
  · simp [Value.cells] at hcs
    obtain ⟨rfl, rfl, rfl⟩ := hcs
    rw [if_pos (hs _)] at hz
    exact ⟨fun i => ss.getD i ByteArray.empty, arg_of hl hm (fun i hi => hcell i (by omega))⟩
/-- Ops: kinds and numbers. -/
structure ArgO (w : World) (p : Option Addr) (n cap : Nat) (K N : Nat → Int) : Prop where
  le : n ≤ cap
  most : cap ≤ maxLen
  cells : n = 0 ∨ ∃ b o, p = some ⟨b, o, none⟩ ∧ b < w.heap.size ∧ ∀ i, i < n → w.cell? ⟨b, o + i * 2, none⟩ = some (.int .i64 (K i)) ∧ w.cell? ⟨b, o + i * 2 + 1, none⟩ = some (.int .i64 (N i))
theorem ArgO.keep {w w' : World} {p : Option Addr} {n cap : Nat} {K N : Nat → Int} (h : ArgO w p n cap K N) (hb : Below w.heap.size w w') : ArgO w' p n cap K N := by
  refine ⟨h.le, h.most, ?_⟩
  rcases h.cells with h | ⟨b, o, rfl, hlt, hc⟩
  · exact .inl h
  · refine .inr ⟨b, o, rfl, Nat.lt_of_lt_of_le hlt hb.size, fun i hi => ?_⟩
    obtain ⟨h1, h2⟩ := hc i hi
    exact ⟨(hb.cell (p := ⟨b, _, none⟩) hlt).trans h1, (hb.cell (p := ⟨b, _, none⟩) hlt).trans h2⟩
theorem ArgO.at {w : World} {p : Option Addr} {n cap : Nat} {K N : Nat → Int} (h : ArgO w p n cap K N) {i : Nat} (hi : i < n) : ∃ b o, p = some ⟨b, o, none⟩ ∧ b < w.heap.size ∧ ∀ i, i < n → w.cell? ⟨b, o + i * 2, none⟩ = some (.int .i64 (K i)) ∧ w.cell? ⟨b, o + i * 2 + 1, none⟩ = some (.int .i64 (N i)) := by
  rcases h.cells with h | h
  · omega
  · exact h
theorem op_desc : ∃ f0 f1 : Field, Try.prog.underlying 29 = some (.struct #[f0, f1]) ∧ f0.offset = 0 ∧ f1.offset = 1 ∧ f0.type = 3 ∧ f1.type = 3 := ⟨_, _, Try.underlying29, rfl, rfl, rfl, rfl⟩
theorem argO_of {H : Type} {enc : TypeId × Value → H} {W : World} {spare : Nat → Bool} {held : Bool} {base : Nat} {a : Option Addr} {len cap : Nat} {d : DataW H} {ps : List MemPlace} {fuel : Nat}
    (hs : ∀ b, spare b = true) (h : DataW.trod enc Try.prog W base spare held fuel 22 (Value.slice a len cap).cells.toList = some (d, ps)) : ∃ (K N : Nat → Int), ArgO W a len cap K N := by
  obtain ⟨f0, f1, he, o0, o1, t0, t1⟩ := op_desc
  have ce : Try.prog.cellsOf 29 = 2 := by kernel_rfl
  have k0 : Try.prog.cellsOf 3 = 1 := by kernel_rfl
  rcases Deep.open_slice Try.underlying22 h with ⟨hcs, _⟩ | ⟨x, l, c, m, n, D, Pl, hcs, _, hl, hm, hmm, _, hx⟩
  · simp [Value.cells] at hcs
    obtain ⟨rfl, rfl, rfl⟩ := hcs
    exact ⟨fun _ => 0, fun _ => 0, Nat.le_refl _, by unfold maxLen; omega, .inl rfl⟩
  · simp [Value.cells] at hcs
    obtain ⟨rfl, rfl, rfl⟩ := hcs
    rw [if_pos (hs _)] at hmm
    have each : ∀ i, ∃ q : Int × Int, i < len → W.cell? (x.add (i * 2)) = some (.int .i64 q.1) ∧ W.cell? (x.add (i * 2 + 1)) = some (.int .i64 q.2) := by
      intro i
      by_cases hi : i < len
      · obtain ⟨cs', h1, h2⟩ := hx i (by omega)
        rw [ce] at h1
        obtain ⟨_, hlen, hcell⟩ := World.cells?_some h1
        obtain ⟨xs, k, hk, hxy, _, hxl, hf⟩ := DataW.trod_struct he h2
        match xs, hxl, cs', hlen with
        | [y0, y1], _, [v0, v1], _ =>
          have g0 := hf 0 f0 rfl
          have g1 := hf 1 f1 rfl
          simp [o0, o1, t0, t1, k0] at g0 g1
          obtain ⟨n0, e0, _, w0⟩ := DataW.trod_int Try.underlying3 g0
          obtain ⟨n1, e1, _, w1⟩ := DataW.trod_int Try.underlying3 g1
          cases e0; cases e1
          have c0 := hcell 0 (by omega)
          have c1 := hcell 1 (by omega)
          rw [Deep.add_add] at c0 c1
          exact ⟨(n0, n1), fun _ => ⟨by simpa using c0, by simpa using c1⟩⟩
      · exact ⟨(0, 0), fun e => absurd e hi⟩
    refine ⟨fun i => (each i).choose.1, fun i => (each i).choose.2, hl, hm, ?_⟩
    by_cases h0 : len = 0
    · exact .inl h0
    · right
      obtain ⟨b, off, spot⟩ := x
      have h1 := ((each 0).choose_spec (by omega)).1
      have hspot : spot = none := by simpa [Addr.add] using World.cell?_spot h1
      subst hspot
      refine ⟨b, off, rfl, ?_, fun i hi => ?_⟩
      · have := World.block_lt_of_cell? _ _ h1; simpa [Addr.add] using this
      · obtain ⟨g0, g1⟩ := (each i).choose_spec hi
        exact ⟨by rw [← Addr.add_lit]; exact g0, by rw [Nat.add_assoc, ← Addr.add_lit]; exact g1⟩
end Go.Proofs.Ytllojhhplfdgkaa
