/- Layer 11 (walk): players and commands that came in, out of the rows' own reading. -/
import Derived.Test.YtjjdclckkhddbaaGrArg
import Derived.Test.YtjjdclckkhddbaaWkA
namespace Go.Proofs.Ytjjdclckkhddbaa
open Go.ChangeShapes Go.WideShapes Go.ChangeAt Go.RowKit Go.Joins
set_option linter.unusedVariables false
set_option linter.unusedSimpArgs false

/-- A player's other numbers are of 64 bits, too. -/
structure Pl.Full (p : Pl) : Prop where
  id : I64 p.id
  he : I64 p.he
  ar : I64 p.ar
  sc : I64 p.sc
  a0 : I64 p.a0
  a1 : I64 p.a1
  wa : I64 p.wa
  de : I64 p.de
/-- Commands in a row that came in. -/
structure ArgC (w : World) (p : Option Addr) (n cap : Nat) (C : Nat → Cm) : Prop where
  le : n ≤ cap
  most : cap ≤ maxLen
  cells : n = 0 ∨ ∃ b o, p = some ⟨b, o, none⟩ ∧ b < w.heap.size ∧ ∀ i, i < n → w.cell? ⟨b, o + i * 5, none⟩ = some (.int .u16 (C i).sq) ∧ w.cell? ⟨b, o + i * 5 + 1, none⟩ = some (.int .u8 (C i).bt) ∧ w.cell? ⟨b, o + i * 5 + 2, none⟩ = some (.int .i8 (C i).dx) ∧ w.cell? ⟨b, o + i * 5 + 3, none⟩ = some (.int .i8 (C i).dy) ∧ w.cell? ⟨b, o + i * 5 + 4, none⟩ = some (.int .i64 (C i).tk)
theorem ArgC.keep {w w' : World} {p : Option Addr} {n cap : Nat} {C : Nat → Cm} (h : ArgC w p n cap C) (hb : Below w.heap.size w w') : ArgC w' p n cap C := by
  refine ⟨h.le, h.most, ?_⟩
  rcases h.cells with h | ⟨b, o, rfl, hlt, hc⟩
  · exact .inl h
  · refine .inr ⟨b, o, rfl, Nat.lt_of_lt_of_le hlt hb.size, fun i hi => ?_⟩
    obtain ⟨h1, h2, h3, h4, h5⟩ := hc i hi
    exact ⟨(hb.cell (p := ⟨b, _, none⟩) hlt).trans h1, (hb.cell (p := ⟨b, _, none⟩) hlt).trans h2, (hb.cell (p := ⟨b, _, none⟩) hlt).trans h3, (hb.cell (p := ⟨b, _, none⟩) hlt).trans h4, (hb.cell (p := ⟨b, _, none⟩) hlt).trans h5⟩
theorem ArgC.at {w : World} {p : Option Addr} {n cap : Nat} {C : Nat → Cm} (h : ArgC w p n cap C) {i : Nat} (hi : i < n) : ∃ b o, p = some ⟨b, o, none⟩ ∧ b < w.heap.size ∧ ∀ i, i < n → w.cell? ⟨b, o + i * 5, none⟩ = some (.int .u16 (C i).sq) ∧ w.cell? ⟨b, o + i * 5 + 1, none⟩ = some (.int .u8 (C i).bt) ∧ w.cell? ⟨b, o + i * 5 + 2, none⟩ = some (.int .i8 (C i).dx) ∧ w.cell? ⟨b, o + i * 5 + 3, none⟩ = some (.int .i8 (C i).dy) ∧ w.cell? ⟨b, o + i * 5 + 4, none⟩ = some (.int .i64 (C i).tk) := by
  rcases h.cells with h | h
  · omega
  · exact h
theorem wf_i8 {n : Int} (h : (Lit.int .i8 n).wf = true) : -128 ≤ n ∧ n ≤ 127 := by
  simp [Lit.wf, IntKind.min, IntKind.max, IntKind.signed, IntKind.bits] at h; omega
theorem wf_u8' {n : Int} (h : (Lit.int .u8 n).wf = true) : 0 ≤ n ∧ n < 256 := by
  simp [Lit.wf, IntKind.min, IntKind.max, IntKind.signed, IntKind.bits] at h; omega
section
variable {H : Type} {enc : TypeId × Value → H} {W : World} {spare : Nat → Bool} {held : Bool} {base fuel : Nat}
theorem pl_desc : ∃ f0 f1 f2 f3 f4 f5 f6 f7 f8 f9 : Field, Try.prog.underlying 30 = some (.struct #[f0, f1, f2, f3, f4, f5, f6, f7, f8, f9]) ∧ f0.offset = 0 ∧ f1.offset = 1 ∧ f2.offset = 4 ∧ f3.offset = 7 ∧ f4.offset = 8 ∧ f5.offset = 9 ∧ f6.offset = 10 ∧ f7.offset = 11 ∧ f8.offset = 13 ∧ f9.offset = 14 ∧ f0.type = 3 ∧ f1.type = 27 ∧ f2.type = 27 ∧ f3.type = 4 ∧ f4.type = 3 ∧ f5.type = 3 ∧ f6.type = 3 ∧ f7.type = 28 ∧ f8.type = 3 ∧ f9.type = 3 := ⟨_, _, _, _, _, _, _, _, _, _, Try.underlying30, rfl, rfl, rfl, rfl, rfl, rfl, rfl, rfl, rfl, rfl, rfl, rfl, rfl, rfl, rfl, rfl, rfl, rfl, rfl, rfl⟩
theorem cm_desc : ∃ f0 f1 f2 f3 f4 : Field, Try.prog.underlying 34 = some (.struct #[f0, f1, f2, f3, f4]) ∧ f0.offset = 0 ∧ f1.offset = 1 ∧ f2.offset = 2 ∧ f3.offset = 3 ∧ f4.offset = 4 ∧ f0.type = 31 ∧ f1.type = 5 ∧ f2.type = 32 ∧ f3.type = 32 ∧ f4.type = 3 := ⟨_, _, _, _, _, Try.underlying34, rfl, rfl, rfl, rfl, rfl, rfl, rfl, rfl, rfl, rfl⟩
theorem trod_two {v0 v1 : Value} {x : DataW H × List MemPlace} (h : DataW.trod enc Try.prog W base spare held fuel 28 [v0, v1] = some x) : ∃ a b : Int, v0 = .int .i64 a ∧ v1 = .int .i64 b ∧ I64 a ∧ I64 b := by
  have k0 : Try.prog.cellsOf 3 = 1 := by kernel_rfl
  obtain ⟨xs, k, hk, hxy, _, hxl, hf⟩ := DataW.trod_array Try.underlying28 h
  match xs, hxl with
  | [y0, y1], _ =>
    have g0 := hf 0 (by omega)
    have g1 := hf 1 (by omega)
    simp [k0] at g0 g1
    obtain ⟨n0, e0, _, w0⟩ := DataW.trod_int Try.underlying3 g0
    obtain ⟨n1, e1, _, w1⟩ := DataW.trod_int Try.underlying3 g1
    cases e0; cases e1
    exact ⟨n0, n1, rfl, rfl, wf_i64 w0, wf_i64 w1⟩
theorem trod_player {v0 v1 v2 v3 v4 v5 v6 v7 v8 v9 v10 v11 v12 v13 v14 : Value} {x : DataW H × List MemPlace} (h : DataW.trod enc Try.prog W base spare held fuel 30 [v0, v1, v2, v3, v4, v5, v6, v7, v8, v9, v10, v11, v12, v13, v14] = some x) : ∃ p : Pl, #[v0, v1, v2, v3, v4, v5, v6, v7, v8, v9, v10, v11, v12, v13, v14] = #[.int .i64 p.id, .int .i64 p.px, .int .i64 p.py, .int .i64 p.pz, .int .i64 p.vx, .int .i64 p.vy, .int .i64 p.vz, .bool p.gr, .int .i64 p.he, .int .i64 p.ar, .int .i64 p.sc, .int .i64 p.a0, .int .i64 p.a1, .int .i64 p.wa, .int .i64 p.de] ∧ p.Wf ∧ p.Full := by
  obtain ⟨f0, f1, f2, f3, f4, f5, f6, f7, f8, f9, hu, o0, o1, o2, o3, o4, o5, o6, o7, o8, o9, t0, t1, t2, t3, t4, t5, t6, t7, t8, t9⟩ := pl_desc
  have z0 : Try.prog.cellsOf 3 = 1 := by kernel_rfl
  have z1 : Try.prog.cellsOf 27 = 3 := by kernel_rfl
  have z2 : Try.prog.cellsOf 4 = 1 := by kernel_rfl
  have z3 : Try.prog.cellsOf 28 = 2 := by kernel_rfl
  obtain ⟨xs, k, hk, hxy, _, hxl, hf⟩ := DataW.trod_struct hu h
  match xs, hxl with
  | [y0, y1, y2, y3, y4, y5, y6, y7, y8, y9], _ =>
    have g0 := hf 0 f0 rfl
    simp [o0, t0, z0, z1, z2, z3] at g0
    have g1 := hf 1 f1 rfl
    simp [o1, t1, z0, z1, z2, z3] at g1
    have g2 := hf 2 f2 rfl
    simp [o2, t2, z0, z1, z2, z3] at g2
    have g3 := hf 3 f3 rfl
    simp [o3, t3, z0, z1, z2, z3] at g3
    have g4 := hf 4 f4 rfl
    simp [o4, t4, z0, z1, z2, z3] at g4
    have g5 := hf 5 f5 rfl
    simp [o5, t5, z0, z1, z2, z3] at g5
    have g6 := hf 6 f6 rfl
    simp [o6, t6, z0, z1, z2, z3] at g6
    have g7 := hf 7 f7 rfl
    simp [o7, t7, z0, z1, z2, z3] at g7
    have g8 := hf 8 f8 rfl
    simp [o8, t8, z0, z1, z2, z3] at g8
    have g9 := hf 9 f9 rfl
    simp [o9, t9, z0, z1, z2, z3] at g9
    obtain ⟨n0, e0, _, w0⟩ := DataW.trod_int Try.underlying3 g0
    cases e0
    obtain ⟨a1, b1, c1, rfl, rfl, rfl, wa1, wb1, wc1⟩ := trod_vec g1
    obtain ⟨a2, b2, c2, rfl, rfl, rfl, wa2, wb2, wc2⟩ := trod_vec g2
    obtain ⟨n3, e3, _⟩ := DataW.trod_bool Try.underlying4 g3
    cases e3
    obtain ⟨n4, e4, _, w4⟩ := DataW.trod_int Try.underlying3 g4
    cases e4
    obtain ⟨n5, e5, _, w5⟩ := DataW.trod_int Try.underlying3 g5
    cases e5
    obtain ⟨n6, e6, _, w6⟩ := DataW.trod_int Try.underlying3 g6
    cases e6
    obtain ⟨a7, b7, rfl, rfl, wa7, wb7⟩ := trod_two g7
    obtain ⟨n8, e8, _, w8⟩ := DataW.trod_int Try.underlying3 g8
    cases e8
    obtain ⟨n9, e9, _, w9⟩ := DataW.trod_int Try.underlying3 g9
    cases e9
    exact ⟨⟨n0, a1, b1, c1, a2, b2, c2, n3, n4, n5, n6, a7, b7, n8, n9⟩, rfl, ⟨wa1, wb1, wc1, wa2, wb2, wc2⟩, ⟨wf_i64 w0, wf_i64 w4, wf_i64 w5, wf_i64 w6, wa7, wb7, wf_i64 w8, wf_i64 w9⟩⟩
theorem trod_command {v0 v1 v2 v3 v4 : Value} {x : DataW H × List MemPlace} (h : DataW.trod enc Try.prog W base spare held fuel 34 [v0, v1, v2, v3, v4] = some x) : ∃ c : Cm, #[v0, v1, v2, v3, v4] = #[.int .u16 c.sq, .int .u8 c.bt, .int .i8 c.dx, .int .i8 c.dy, .int .i64 c.tk] ∧ c.Wf := by
  obtain ⟨f0, f1, f2, f3, f4, hu, o0, o1, o2, o3, o4, t0, t1, t2, t3, t4⟩ := cm_desc
  have z0 : Try.prog.cellsOf 3 = 1 := by kernel_rfl
  have z1 : Try.prog.cellsOf 32 = 1 := by kernel_rfl
  have z2 : Try.prog.cellsOf 5 = 1 := by kernel_rfl
  have z3 : Try.prog.cellsOf 31 = 1 := by kernel_rfl
  obtain ⟨xs, k, hk, hxy, _, hxl, hf⟩ := DataW.trod_struct hu h
  match xs, hxl with
  | [y0, y1, y2, y3, y4], _ =>
    have g0 := hf 0 f0 rfl
    simp [o0, t0, z0, z1, z2, z3] at g0
    obtain ⟨n0, e0, _, w0⟩ := DataW.trod_int Try.underlying31 g0
    cases e0
    have g1 := hf 1 f1 rfl
    simp [o1, t1, z0, z1, z2, z3] at g1
    obtain ⟨n1, e1, _, w1⟩ := DataW.trod_int Try.underlying5 g1
    cases e1
    have g2 := hf 2 f2 rfl
    simp [o2, t2, z0, z1, z2, z3] at g2
    obtain ⟨n2, e2, _, w2⟩ := DataW.trod_int Try.underlying32 g2
    cases e2
    have g3 := hf 3 f3 rfl
    simp [o3, t3, z0, z1, z2, z3] at g3
    obtain ⟨n3, e3, _, w3⟩ := DataW.trod_int Try.underlying32 g3
    cases e3
    have g4 := hf 4 f4 rfl
    simp [o4, t4, z0, z1, z2, z3] at g4
    obtain ⟨n4, e4, _, w4⟩ := DataW.trod_int Try.underlying3 g4
    cases e4
    exact ⟨⟨n0, n1, n2, n3, n4⟩, rfl, ⟨(wf_u8' w1).1, (wf_u8' w1).2, (wf_i8 w2).1, (wf_i8 w2).2, (wf_i8 w3).1, (wf_i8 w3).2, wf_i64 w4⟩⟩
theorem player_of {cs : Array Value} {d : DataW H} {ps : List MemPlace} (hz : cs.size = 15) (h : DataW.trod enc Try.prog W base spare held fuel 30 cs.toList = some (d, ps)) : ∃ p : Pl, cs = #[.int .i64 p.id, .int .i64 p.px, .int .i64 p.py, .int .i64 p.pz, .int .i64 p.vx, .int .i64 p.vy, .int .i64 p.vz, .bool p.gr, .int .i64 p.he, .int .i64 p.ar, .int .i64 p.sc, .int .i64 p.a0, .int .i64 p.a1, .int .i64 p.wa, .int .i64 p.de] ∧ p.Wf ∧ p.Full := by
  obtain ⟨l⟩ := cs
  match l, hz with
  | [v0, v1, v2, v3, v4, v5, v6, v7, v8, v9, v10, v11, v12, v13, v14], _ => exact trod_player h
theorem command_of {cs : Array Value} {d : DataW H} {ps : List MemPlace} (hz : cs.size = 5) (h : DataW.trod enc Try.prog W base spare held fuel 34 cs.toList = some (d, ps)) : ∃ c : Cm, cs = #[.int .u16 c.sq, .int .u8 c.bt, .int .i8 c.dx, .int .i8 c.dy, .int .i64 c.tk] ∧ c.Wf := by
  obtain ⟨l⟩ := cs
  match l, hz with
  | [v0, v1, v2, v3, v4], _ => exact trod_command h
def noCm : Cm := ⟨0, 0, 0, 0, 0⟩
theorem noCm_wf : noCm.Wf := ⟨by decide, by decide, by decide, by decide, by decide, by decide, ⟨by decide, by decide⟩⟩
theorem argC_of {a : Option Addr} {len cap : Nat} {d : DataW H} {ps : List MemPlace}
    (hs : ∀ b, spare b = true) (h : DataW.trod enc Try.prog W base spare held fuel 40 (Value.slice a len cap).cells.toList = some (d, ps)) : ∃ C : Nat → Cm, ArgC W a len cap C ∧ ∀ i, (C i).Wf := by
  have ce : Try.prog.cellsOf 34 = 5 := by kernel_rfl
  rcases Deep.open_slice Try.underlying40 h with ⟨hcs, _⟩ | ⟨x, l, c, m, n, D, Pl, hcs, _, hl, hm, hmm, _, hx⟩
  · simp [Value.cells] at hcs
    obtain ⟨rfl, rfl, rfl⟩ := hcs
    exact ⟨fun _ => noCm, ⟨Nat.le_refl _, by unfold maxLen; omega, .inl rfl⟩, fun _ => noCm_wf⟩
  · simp [Value.cells] at hcs
    obtain ⟨rfl, rfl, rfl⟩ := hcs
    rw [if_pos (hs _)] at hmm
    have each : ∀ i, ∃ q : Cm, (i < len → W.cell? (x.add (i * 5)) = some (.int .u16 q.sq) ∧ W.cell? (x.add (i * 5 + 1)) = some (.int .u8 q.bt) ∧ W.cell? (x.add (i * 5 + 2)) = some (.int .i8 q.dx) ∧ W.cell? (x.add (i * 5 + 3)) = some (.int .i8 q.dy) ∧ W.cell? (x.add (i * 5 + 4)) = some (.int .i64 q.tk)) ∧ q.Wf := by
      intro i
      by_cases hi : i < len
      · obtain ⟨cs', h1, h2⟩ := hx i (by omega)
        rw [ce] at h1
        obtain ⟨_, hlen, hcell⟩ := World.cells?_some h1
        match cs', hlen with
        | [v0, v1, v2, v3, v4], _ =>
          obtain ⟨q, he, hw⟩ := trod_command h2
          simp at he
          obtain ⟨rfl, rfl, rfl, rfl, rfl⟩ := he
          have c0 := hcell 0 (by omega)
          have c1 := hcell 1 (by omega)
          have c2 := hcell 2 (by omega)
          have c3 := hcell 3 (by omega)
          have c4 := hcell 4 (by omega)
          rw [Deep.add_add] at c0 c1 c2 c3 c4
          exact ⟨q, fun _ => ⟨by simpa using c0, by simpa using c1, by simpa using c2, by simpa using c3, by simpa using c4⟩, hw⟩
      · exact ⟨noCm, fun e => absurd e hi, noCm_wf⟩
    refine ⟨fun i => (each i).choose, ⟨hl, hm, ?_⟩, fun i => (each i).choose_spec.2⟩
    by_cases h0 : len = 0
    · exact .inl h0
    · right
      obtain ⟨b, off, spot⟩ := x
      have h1 := ((each 0).choose_spec.1 (by omega)).1
      have hspot : spot = none := by simpa [Addr.add] using World.cell?_spot h1
      subst hspot
      refine ⟨b, off, rfl, ?_, fun i hi => ?_⟩
      · have := World.block_lt_of_cell? _ _ h1; simpa [Addr.add] using this
      · obtain ⟨g0, g1, g2, g3, g4⟩ := (each i).choose_spec.1 hi
        exact ⟨by rw [← Addr.add_lit]; exact g0, by rw [Nat.add_assoc, ← Addr.add_lit]; exact g1, by rw [Nat.add_assoc, ← Addr.add_lit]; exact g2, by rw [Nat.add_assoc, ← Addr.add_lit]; exact g3, by rw [Nat.add_assoc, ← Addr.add_lit]; exact g4⟩
end
end Go.Proofs.Ytjjdclckkhddbaa
