/- Layer 3 (bits): puts that came in, out of the rows' own reading. -/
import Derived.Test.YtnaeloapajhpfaaBtArg
import Derived.Deep.SlicePairs
namespace Go.Proofs.Ytnaeloapajhpfaa
open Go.ChangeShapes Go.WideShapes Go.ChangeAt Go.RowKit Go.Joins
set_option linter.unusedVariables false

/-- Puts: numbers, how many bits, with a sign or not. -/
structure ArgP (w : World) (p : Option Addr) (n cap : Nat) (N B : Nat → Int) (G : Nat → Bool) : Prop where
  le : n ≤ cap
  most : cap ≤ maxLen
  cells : n = 0 ∨ ∃ b o, p = some ⟨b, o, none⟩ ∧ b < w.heap.size ∧ ∀ i, i < n → w.cell? ⟨b, o + i * 3, none⟩ = some (.int .i64 (N i)) ∧ w.cell? ⟨b, o + i * 3 + 1, none⟩ = some (.int .i64 (B i)) ∧ w.cell? ⟨b, o + i * 3 + 2, none⟩ = some (.bool (G i))
theorem ArgP.keep {w w' : World} {p : Option Addr} {n cap : Nat} {N B : Nat → Int} {G : Nat → Bool} (h : ArgP w p n cap N B G) (hb : Below w.heap.size w w') : ArgP w' p n cap N B G := by
  refine ⟨h.le, h.most, ?_⟩
  rcases h.cells with h | ⟨b, o, rfl, hlt, hc⟩
  · exact .inl h
  · refine .inr ⟨b, o, rfl, Nat.lt_of_lt_of_le hlt hb.size, fun i hi => ?_⟩
    obtain ⟨h1, h2, h3⟩ := hc i hi
    exact ⟨(hb.cell (p := ⟨b, _, none⟩) hlt).trans h1, (hb.cell (p := ⟨b, _, none⟩) hlt).trans h2, (hb.cell (p := ⟨b, _, none⟩) hlt).trans h3⟩
theorem ArgP.at {w : World} {p : Option Addr} {n cap : Nat} {N B : Nat → Int} {G : Nat → Bool} (h : ArgP w p n cap N B G) {i : Nat} (hi : i < n) : ∃ b o, p = some ⟨b, o, none⟩ ∧ b < w.heap.size ∧ ∀ i, i < n → w.cell? ⟨b, o + i * 3, none⟩ = some (.int .i64 (N i)) ∧ w.cell? ⟨b, o + i * 3 + 1, none⟩ = some (.int .i64 (B i)) ∧ w.cell? ⟨b, o + i * 3 + 2, none⟩ = some (.bool (G i)) := by
  rcases h.cells with h | h
  · omega
  · exact h
theorem put_desc : ∃ f0 f1 f2 : Field, Try.prog.underlying 36 = some (.struct #[f0, f1, f2]) ∧ f0.offset = 0 ∧ f1.offset = 1 ∧ f2.offset = 2 ∧ f0.type = 2 ∧ f1.type = 3 ∧ f2.type = 4 := ⟨_, _, _, Try.underlying36, rfl, rfl, rfl, rfl, rfl, rfl⟩
theorem argP_of {H : Type} {enc : TypeId × Value → H} {W : World} {spare : Nat → Bool} {held : Bool} {base : Nat} {a : Option Addr} {len cap : Nat} {d : DataW H} {ps : List MemPlace} {fuel : Nat}
    (hs : ∀ b, spare b = true) (h : DataW.trod enc Try.prog W base spare held fuel 22 (Value.slice a len cap).cells.toList = some (d, ps)) : ∃ (N B : Nat → Int) (G : Nat → Bool), ArgP W a len cap N B G ∧ ∀ i, (Lit.int .i64 (N i)).wf = true ∧ (Lit.int .i64 (B i)).wf = true := by
  obtain ⟨f0, f1, f2, he, o0, o1, o2, t0, t1, t2⟩ := put_desc
  have ce : Try.prog.cellsOf 36 = 3 := by kernel_rfl
  have k0 : Try.prog.cellsOf 2 = 1 := by kernel_rfl
  have k1 : Try.prog.cellsOf 3 = 1 := by kernel_rfl
  have k2 : Try.prog.cellsOf 4 = 1 := by kernel_rfl
  rcases Deep.open_slice Try.underlying22 h with ⟨hcs, _⟩ | ⟨x, l, c, m, n, D, Pl, hcs, _, hl, hm, hmm, _, hx⟩
  · simp [Value.cells] at hcs
    obtain ⟨rfl, rfl, rfl⟩ := hcs
    exact ⟨fun _ => 0, fun _ => 0, fun _ => false, ⟨Nat.le_refl _, by unfold maxLen; omega, .inl rfl⟩, fun _ => ⟨show (Lit.int .i64 0).wf = true by decide, show (Lit.int .i64 0).wf = true by decide⟩⟩
  · simp [Value.cells] at hcs
    obtain ⟨rfl, rfl, rfl⟩ := hcs
    rw [if_pos (hs _)] at hmm
    have each : ∀ i, ∃ q : Int × Int × Bool, (i < len → W.cell? (x.add (i * 3)) = some (.int .i64 q.1) ∧ W.cell? (x.add (i * 3 + 1)) = some (.int .i64 q.2.1) ∧ W.cell? (x.add (i * 3 + 2)) = some (.bool q.2.2)) ∧ (Lit.int .i64 q.1).wf = true ∧ (Lit.int .i64 q.2.1).wf = true := by
      intro i
      by_cases hi : i < len
      · obtain ⟨cs', h1, h2⟩ := hx i (by omega)
        rw [ce] at h1
        obtain ⟨_, hlen, hcell⟩ := World.cells?_some h1
        obtain ⟨xs, k, hk, hxy, _, hxl, hf⟩ := DataW.trod_struct he h2
        match xs, hxl, cs', hlen with
        | [y0, y1, y2], _, [v0, v1, v2], _ =>
          have g0 := hf 0 f0 rfl
          have g1 := hf 1 f1 rfl
          have g2 := hf 2 f2 rfl
          simp [o0, o1, o2, t0, t1, t2, k0, k1, k2] at g0 g1 g2
          obtain ⟨n0, e0, _, w0⟩ := DataW.trod_int Try.underlying2 g0
          obtain ⟨n1, e1, _, w1⟩ := DataW.trod_int Try.underlying3 g1
          obtain ⟨n2, e2, _⟩ := DataW.trod_bool Try.underlying4 g2
          cases e0; cases e1; cases e2
          have c0 := hcell 0 (by omega)
          have c1 := hcell 1 (by omega)
          have c2 := hcell 2 (by omega)
          rw [Deep.add_add] at c0 c1 c2
          exact ⟨(n0, n1, n2), fun _ => ⟨by simpa using c0, by simpa using c1, by simpa using c2⟩, w0, w1⟩
      · exact ⟨(0, 0, false), fun e => absurd e hi, by decide, by decide⟩
    refine ⟨fun i => (each i).choose.1, fun i => (each i).choose.2.1, fun i => (each i).choose.2.2, ⟨hl, hm, ?_⟩, fun i => (each i).choose_spec.2⟩
    by_cases h0 : len = 0
    · exact .inl h0
    · right
      obtain ⟨b, off, spot⟩ := x
      have h1 := ((each 0).choose_spec.1 (by omega)).1
      have hspot : spot = none := by simpa [Addr.add] using World.cell?_spot h1
      subst hspot
      refine ⟨b, off, rfl, ?_, fun i hi => ?_⟩
      · have := World.block_lt_of_cell? _ _ h1; simpa [Addr.add] using this
      · obtain ⟨g0, g1, g2⟩ := (each i).choose_spec.1 hi
        exact ⟨by rw [← Addr.add_lit]; exact g0, by rw [Nat.add_assoc, ← Addr.add_lit]; exact g1, by rw [Nat.add_assoc, ← Addr.add_lit]; exact g2⟩
end Go.Proofs.Ytnaeloapajhpfaa
