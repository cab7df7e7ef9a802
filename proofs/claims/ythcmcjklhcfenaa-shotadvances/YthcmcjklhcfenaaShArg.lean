/- Layer 12 (shot): shots that came in, out of the rows' own reading. -/
import Derived.Test.YthcmcjklhcfenaaGrArg
import Derived.Test.YthcmcjklhcfenaaShA
namespace Go.Proofs.Ythcmcjklhcfenaa
open Go.ChangeShapes Go.WideShapes Go.ChangeAt Go.RowKit Go.Joins
set_option linter.unusedVariables false
set_option linter.unusedSimpArgs false

/-- A shot's numbers are of 64 bits. -/
structure Sh.Wf (s : Sh) : Prop where
  id : I64 s.id
  ow : I64 s.ow
  kd : I64 s.kd
  px : I64 s.px
  py : I64 s.py
  pz : I64 s.pz
  vx : I64 s.vx
  vy : I64 s.vy
  vz : I64 s.vz
  fu : I64 s.fu
section
variable {H : Type} {enc : TypeId × Value → H} {W : World} {spare : Nat → Bool} {held : Bool} {base fuel : Nat}
theorem sh_desc : ∃ f0 f1 f2 f3 f4 f5 f6 : Field, Try.prog.underlying 33 = some (.struct #[f0, f1, f2, f3, f4, f5, f6]) ∧ f0.offset = 0 ∧ f1.offset = 1 ∧ f2.offset = 2 ∧ f3.offset = 3 ∧ f4.offset = 6 ∧ f5.offset = 9 ∧ f6.offset = 10 ∧ f0.type = 3 ∧ f1.type = 3 ∧ f2.type = 3 ∧ f3.type = 27 ∧ f4.type = 27 ∧ f5.type = 3 ∧ f6.type = 4 := ⟨_, _, _, _, _, _, _, Try.underlying33, rfl, rfl, rfl, rfl, rfl, rfl, rfl, rfl, rfl, rfl, rfl, rfl, rfl, rfl⟩
theorem trod_shot {v0 v1 v2 v3 v4 v5 v6 v7 v8 v9 v10 : Value} {x : DataW H × List MemPlace} (h : DataW.trod enc Try.prog W base spare held fuel 33 [v0, v1, v2, v3, v4, v5, v6, v7, v8, v9, v10] = some x) : ∃ s : Sh, #[v0, v1, v2, v3, v4, v5, v6, v7, v8, v9, v10] = #[.int .i64 s.id, .int .i64 s.ow, .int .i64 s.kd, .int .i64 s.px, .int .i64 s.py, .int .i64 s.pz, .int .i64 s.vx, .int .i64 s.vy, .int .i64 s.vz, .int .i64 s.fu, .bool s.rs] ∧ s.Wf := by
  obtain ⟨f0, f1, f2, f3, f4, f5, f6, hu, o0, o1, o2, o3, o4, o5, o6, t0, t1, t2, t3, t4, t5, t6⟩ := sh_desc
  have z0 : Try.prog.cellsOf 3 = 1 := by kernel_rfl
  have z1 : Try.prog.cellsOf 27 = 3 := by kernel_rfl
  have z2 : Try.prog.cellsOf 4 = 1 := by kernel_rfl
  obtain ⟨xs, k, hk, hxy, _, hxl, hf⟩ := DataW.trod_struct hu h
  match xs, hxl with
  | [y0, y1, y2, y3, y4, y5, y6], _ =>
    have g0 := hf 0 f0 rfl
    simp [o0, t0, z0, z1, z2] at g0
    have g1 := hf 1 f1 rfl
    simp [o1, t1, z0, z1, z2] at g1
    have g2 := hf 2 f2 rfl
    simp [o2, t2, z0, z1, z2] at g2
    have g3 := hf 3 f3 rfl
    simp [o3, t3, z0, z1, z2] at g3
    have g4 := hf 4 f4 rfl
    simp [o4, t4, z0, z1, z2] at g4
    have g5 := hf 5 f5 rfl
    simp [o5, t5, z0, z1, z2] at g5
    have g6 := hf 6 f6 rfl
    simp [o6, t6, z0, z1, z2] at g6
    obtain ⟨n0, e0, _, w0⟩ := DataW.trod_int Try.underlying3 g0
    cases e0
    obtain ⟨n1, e1, _, w1⟩ := DataW.trod_int Try.underlying3 g1
    cases e1
    obtain ⟨n2, e2, _, w2⟩ := DataW.trod_int Try.underlying3 g2
    cases e2
    obtain ⟨a3, b3, c3, rfl, rfl, rfl, wa3, wb3, wc3⟩ := trod_vec g3
    obtain ⟨a4, b4, c4, rfl, rfl, rfl, wa4, wb4, wc4⟩ := trod_vec g4
    obtain ⟨n5, e5, _, w5⟩ := DataW.trod_int Try.underlying3 g5
    cases e5
    obtain ⟨n6, e6, _⟩ := DataW.trod_bool Try.underlying4 g6
    cases e6
    exact ⟨⟨n0, n1, n2, a3, b3, c3, a4, b4, c4, n5, n6⟩, rfl, ⟨wf_i64 w0, wf_i64 w1, wf_i64 w2, wa3, wb3, wc3, wa4, wb4, wc4, wf_i64 w5⟩⟩
theorem shot_of {cs : Array Value} {d : DataW H} {ps : List MemPlace} (hz : cs.size = 11) (h : DataW.trod enc Try.prog W base spare held fuel 33 cs.toList = some (d, ps)) : ∃ s : Sh, cs = #[.int .i64 s.id, .int .i64 s.ow, .int .i64 s.kd, .int .i64 s.px, .int .i64 s.py, .int .i64 s.pz, .int .i64 s.vx, .int .i64 s.vy, .int .i64 s.vz, .int .i64 s.fu, .bool s.rs] ∧ s.Wf := by
  obtain ⟨l⟩ := cs
  match l, hz with
  | [v0, v1, v2, v3, v4, v5, v6, v7, v8, v9, v10], _ => exact trod_shot h
end
end Go.Proofs.Ythcmcjklhcfenaa
