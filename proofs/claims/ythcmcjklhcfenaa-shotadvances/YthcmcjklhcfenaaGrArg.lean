/- Layer 9 (grid): maps that came in, out of the rows' own reading. -/
import Derived.Test.YthcmcjklhcfenaaGrD
import Derived.Test.YthcmcjklhcfenaaBtArg
import Derived.Deep.SlicePairs
namespace Go.Proofs.Ythcmcjklhcfenaa
open Go.ChangeShapes Go.WideShapes Go.ChangeAt Go.RowKit Go.Joins
set_option linter.unusedVariables false
set_option linter.unusedSimpArgs false

theorem wf_i64 {n : Int} (h : (Lit.int .i64 n).wf = true) : I64 n := by
  simp [Lit.wf, IntKind.min, IntKind.max, IntKind.signed, IntKind.bits] at h; exact ⟨by omega, by omega⟩
theorem wf_i16 {n : Int} (h : (Lit.int .i16 n).wf = true) : -32768 ≤ n ∧ n ≤ 32767 := by
  simp [Lit.wf, IntKind.min, IntKind.max, IntKind.signed, IntKind.bits] at h; omega
section
variable {H : Type} {enc : TypeId × Value → H} {W : World} {spare : Nat → Bool} {held : Bool} {base fuel : Nat}
theorem vec_desc : ∃ f0 f1 f2 : Field, Try.prog.underlying 27 = some (.struct #[f0, f1, f2]) ∧ f0.offset = 0 ∧ f1.offset = 1 ∧ f2.offset = 2 ∧ f0.type = 2 ∧ f1.type = 2 ∧ f2.type = 2 := ⟨_, _, _, Try.underlying27, rfl, rfl, rfl, rfl, rfl, rfl⟩
theorem trod_vec {v0 v1 v2 : Value} {x : DataW H × List MemPlace} (h : DataW.trod enc Try.prog W base spare held fuel 27 [v0, v1, v2] = some x) : ∃ a b c : Int, v0 = .int .i64 a ∧ v1 = .int .i64 b ∧ v2 = .int .i64 c ∧ I64 a ∧ I64 b ∧ I64 c := by
  obtain ⟨f0, f1, f2, he, o0, o1, o2, t0, t1, t2⟩ := vec_desc
  have k0 : Try.prog.cellsOf 2 = 1 := by kernel_rfl
  obtain ⟨xs, k, hk, hxy, _, hxl, hf⟩ := DataW.trod_struct he h
  match xs, hxl with
  | [y0, y1, y2], _ =>
    have g0 := hf 0 f0 rfl
    have g1 := hf 1 f1 rfl
    have g2 := hf 2 f2 rfl
    simp [o0, o1, o2, t0, t1, t2, k0] at g0 g1 g2
    obtain ⟨n0, e0, _, w0⟩ := DataW.trod_int Try.underlying2 g0
    obtain ⟨n1, e1, _, w1⟩ := DataW.trod_int Try.underlying2 g1
    obtain ⟨n2, e2, _, w2⟩ := DataW.trod_int Try.underlying2 g2
    cases e0; cases e1; cases e2
    exact ⟨n0, n1, n2, rfl, rfl, rfl, wf_i64 w0, wf_i64 w1, wf_i64 w2⟩
theorem i64_nought : I64 0 := ⟨by omega, by omega⟩
theorem argW_of {a : Option Addr} {len cap : Nat} {d : DataW H} {ps : List MemPlace}
    (hs : ∀ b, spare b = true) (h : DataW.trod enc Try.prog W base spare held fuel 23 (Value.slice a len cap).cells.toList = some (d, ps)) : ∃ X Y Z : Nat → Int, ArgW W a len cap X Y Z ∧ ∀ i, I64 (X i) ∧ I64 (Y i) ∧ I64 (Z i) := by
  have ce : Try.prog.cellsOf 27 = 3 := by kernel_rfl
  rcases Deep.open_slice Try.underlying23 h with ⟨hcs, _⟩ | ⟨x, l, c, m, n, D, Pl, hcs, _, hl, hm, hmm, _, hx⟩
  · simp [Value.cells] at hcs
    obtain ⟨rfl, rfl, rfl⟩ := hcs
    exact ⟨fun _ => 0, fun _ => 0, fun _ => 0, ⟨Nat.le_refl _, by unfold maxLen; omega, .inl rfl⟩, fun _ => ⟨i64_nought, i64_nought, i64_nought⟩⟩
  · simp [Value.cells] at hcs
    obtain ⟨rfl, rfl, rfl⟩ := hcs
    rw [if_pos (hs _)] at hmm
    have each : ∀ i, ∃ q : Int × Int × Int, (i < len → W.cell? (x.add (i * 3)) = some (.int .i64 q.1) ∧ W.cell? (x.add (i * 3 + 1)) = some (.int .i64 q.2.1) ∧ W.cell? (x.add (i * 3 + 2)) = some (.int .i64 q.2.2)) ∧ I64 q.1 ∧ I64 q.2.1 ∧ I64 q.2.2 := by
      intro i
      by_cases hi : i < len
      · obtain ⟨cs', h1, h2⟩ := hx i (by omega)
        rw [ce] at h1
        obtain ⟨_, hlen, hcell⟩ := World.cells?_some h1
        match cs', hlen with
        | [v0, v1, v2], _ =>
          obtain ⟨n0, n1, n2, rfl, rfl, rfl, w0, w1, w2⟩ := trod_vec h2
          have c0 := hcell 0 (by omega)
          have c1 := hcell 1 (by omega)
          have c2 := hcell 2 (by omega)
          rw [Deep.add_add] at c0 c1 c2
          exact ⟨(n0, n1, n2), fun _ => ⟨by simpa using c0, by simpa using c1, by simpa using c2⟩, w0, w1, w2⟩
      · exact ⟨(0, 0, 0), fun e => absurd e hi, i64_nought, i64_nought, i64_nought⟩
    refine ⟨fun i => (each i).choose.1, fun i => (each i).choose.2.1, fun i => (each i).choose.2.2, ⟨hl, hm, ?_⟩, fun i => (each i).choose_spec.2⟩
    by_cases h0 : len = 0
    · exact .inl h0
    · right
      obtain ⟨b, off, spot⟩ := x
      have h1 := ((each 0).choose_spec.1 (by omega)).1
      have hspot : spot = none := by simpa [Addr.add] using World.cell?_spot h1
      subst hspot
      refine ⟨b, off, rfl, ?_, fun i hi => ?_⟩
      · have := World.block_lt_of_cell? _ _ h1; simpa [Addr.add] using this
      · obtain ⟨g0, g1, g2⟩ := (each i).choose_spec.1 hi
        exact ⟨by rw [← Addr.add_lit]; exact g0, by rw [Nat.add_assoc, ← Addr.add_lit]; exact g1, by rw [Nat.add_assoc, ← Addr.add_lit]; exact g2⟩
theorem argB_of {a : Option Addr} {len cap : Nat} {d : DataW H} {ps : List MemPlace}
    (hs : ∀ b, spare b = true) (h : DataW.trod enc Try.prog W base spare held fuel 22 (Value.slice a len cap).cells.toList = some (d, ps)) : ∃ f : Nat → Bool, Arg W a len cap fun i => .bool (f i) := by
  have ce : Try.prog.cellsOf 4 = 1 := by kernel_rfl
  rcases Deep.open_slice Try.underlying22 h with ⟨hcs, _⟩ | ⟨x, l, c, m, n, D, Pl, hcs, _, hl, hm, hmm, _, hx⟩
  · simp [Value.cells] at hcs
    obtain ⟨rfl, rfl, rfl⟩ := hcs
    exact ⟨fun _ => false, Nat.le_refl _, by unfold maxLen; omega, .inl rfl⟩
  · simp [Value.cells] at hcs
    obtain ⟨rfl, rfl, rfl⟩ := hcs
    rw [if_pos (hs _)] at hmm
    have each : ∀ i, ∃ q : Bool, (i < len → W.cell? (x.add i) = some (.bool q)) := by
      intro i
      by_cases hi : i < len
      · obtain ⟨cs', h1, h2⟩ := hx i (by omega)
        rw [ce] at h1
        obtain ⟨_, hlen, hcell⟩ := World.cells?_some h1
        match cs', hlen with
        | [v0], _ =>
          obtain ⟨n0, e0, _⟩ := DataW.trod_bool Try.underlying4 h2
          cases e0
          have c0 := hcell 0 (by omega)
          rw [Deep.add_add] at c0
          exact ⟨n0, fun _ => by simpa using c0⟩
      · exact ⟨false, fun e => absurd e hi⟩
    exact ⟨fun i => (each i).choose, arg_of hl hm fun i hi => (each i).choose_spec hi⟩
theorem map_desc : ∃ f0 f1 f2 f3 f4 : Field, Try.prog.underlying 25 = some (.struct #[f0, f1, f2, f3, f4]) ∧ f0.offset = 0 ∧ f1.offset = 1 ∧ f2.offset = 2 ∧ f3.offset = 3 ∧ f4.offset = 4 ∧ f0.type = 3 ∧ f1.type = 3 ∧ f2.type = 3 ∧ f3.type = 22 ∧ f4.type = 23 := ⟨_, _, _, _, _, Try.underlying25, rfl, rfl, rfl, rfl, rfl, rfl, rfl, rfl, rfl, rfl⟩
/-- A map that came in. -/
structure MapIn (w : World) (cs : Array Value) (W D H : Int) (mp : Option Addr) (mn mc : Nat) (mf : Nat → Bool) (sp : Option Addr) (sn sc : Nat) (X Y Z : Nat → Int) : Prop where
  eq : cs = #[.int .i64 W, .int .i64 D, .int .i64 H, .slice mp mn mc, .slice sp sn sc]
  hW : I64 W
  hD : I64 D
  hH : I64 H
  cells : Arg w mp mn mc fun i => .bool (mf i)
  spawns : ArgW w sp sn sc X Y Z
  fits : ∀ i, I64 (X i) ∧ I64 (Y i) ∧ I64 (Z i)
theorem trod_map {v0 v1 v2 v3 v4 : Value} {x : DataW H × List MemPlace} (hs : ∀ b, spare b = true) (h : DataW.trod enc Try.prog W base spare held fuel 25 [v0, v1, v2, v3, v4] = some x) : ∃ w' D' H' mp mn mc mf sp sn sc X Y Z, MapIn W #[v0, v1, v2, v3, v4] w' D' H' mp mn mc mf sp sn sc X Y Z := by
  obtain ⟨f0, f1, f2, f3, f4, he, o0, o1, o2, o3, o4, t0, t1, t2, t3, t4⟩ := map_desc
  have z0 : Try.prog.cellsOf 3 = 1 := by kernel_rfl
  have z1 : Try.prog.cellsOf 22 = 1 := by kernel_rfl
  have z2 : Try.prog.cellsOf 23 = 1 := by kernel_rfl
  obtain ⟨xs, k, hk, hxy, _, hxl, hf⟩ := DataW.trod_struct he h
  match xs, hxl with
  | [y0, y1, y2, y3, y4], _ =>
    have g0 := hf 0 f0 rfl
    have g1 := hf 1 f1 rfl
    have g2 := hf 2 f2 rfl
    have g3 := hf 3 f3 rfl
    have g4 := hf 4 f4 rfl
    simp [o0, o1, o2, o3, o4, t0, t1, t2, t3, t4, z0, z1, z2] at g0 g1 g2 g3 g4
    obtain ⟨n0, e0, _, w0⟩ := DataW.trod_int Try.underlying3 g0
    obtain ⟨n1, e1, _, w1⟩ := DataW.trod_int Try.underlying3 g1
    obtain ⟨n2, e2, _, w2⟩ := DataW.trod_int Try.underlying3 g2
    cases e0; cases e1; cases e2
    obtain ⟨a, l, c, hv⟩ : ∃ a l c, v3 = .slice a l c := by
      rcases Deep.open_slice Try.underlying22 g3 with ⟨hcs, _⟩ | ⟨x, l, c, m, n, D, Pl, hcs, _⟩
      · simp at hcs; exact ⟨_, _, _, hcs⟩
      · simp at hcs; exact ⟨_, _, _, hcs⟩
    subst hv
    obtain ⟨a', l', c', hv⟩ : ∃ a l c, v4 = .slice a l c := by
      rcases Deep.open_slice Try.underlying23 g4 with ⟨hcs, _⟩ | ⟨x, l, c, m, n, D, Pl, hcs, _⟩
      · simp at hcs; exact ⟨_, _, _, hcs⟩
      · simp at hcs; exact ⟨_, _, _, hcs⟩
    subst hv
    obtain ⟨f, hfa⟩ := argB_of (a := a) (len := l) (cap := c) hs (by simpa [Value.cells] using g3)
    obtain ⟨X, Y, Z, hXa, hXi⟩ := argW_of (a := a') (len := l') (cap := c') hs (by simpa [Value.cells] using g4)
    exact ⟨n0, n1, n2, a, l, c, f, a', l', c', X, Y, Z, rfl, wf_i64 w0, wf_i64 w1, wf_i64 w2, hfa, hXa, hXi⟩
theorem map_of {cs : Array Value} {d : DataW H} {ps : List MemPlace} (hs : ∀ b, spare b = true) (hz : cs.size = 5) (h : DataW.trod enc Try.prog W base spare held fuel 25 cs.toList = some (d, ps)) : ∃ w' D' H' mp mn mc mf sp sn sc X Y Z, MapIn W cs w' D' H' mp mn mc mf sp sn sc X Y Z := by
  obtain ⟨l⟩ := cs
  match l, hz with
  | [v0, v1, v2, v3, v4], _ => exact trod_map hs h
end
end Go.Proofs.Ythcmcjklhcfenaa
