/- Layer 5 (message): messages that came in, out of the rows' own reading. -/
import Derived.Test.YtkmiogaklmgnkaaMsR
import Derived.Test.YtkmiogaklmgnkaaBtArg
import Derived.Deep.SlicePairs
namespace Go.Proofs.Ytkmiogaklmgnkaa
open Go.ChangeShapes Go.WideShapes Go.ChangeAt Go.RowKit Go.Joins
set_option linter.unusedVariables false
set_option linter.unusedSimpArgs false

theorem cons_of {α : Type} {l : List α} {n : Nat} (h : l.length = n + 1) : ∃ c t, l = c :: t ∧ t.length = n := by
  cases l with
  | nil => simp at h
  | cons c t => exact ⟨c, t, rfl, by simpa using h⟩
section
variable {H : Type} {enc : TypeId × Value → H} {W : World} {spare : Nat → Bool} {held : Bool} {base fuel : Nat}
theorem vec_desc : ∃ f0 f1 f2 : Field, Try.prog.underlying 37 = some (.struct #[f0, f1, f2]) ∧ f0.offset = 0 ∧ f1.offset = 1 ∧ f2.offset = 2 ∧ f0.type = 2 ∧ f1.type = 2 ∧ f2.type = 2 := ⟨_, _, _, Try.underlying37, rfl, rfl, rfl, rfl, rfl, rfl⟩
theorem trod_vec {v0 v1 v2 : Value} {x : DataW H × List MemPlace} (h : DataW.trod enc Try.prog W base spare held fuel 37 [v0, v1, v2] = some x) : ∃ v : V3, v0 = .int .i64 v.x ∧ v1 = .int .i64 v.y ∧ v2 = .int .i64 v.z := by
  obtain ⟨f0, f1, f2, he, o0, o1, o2, t0, t1, t2⟩ := vec_desc
  have k0 : Try.prog.cellsOf 2 = 1 := by kernel_rfl
  obtain ⟨xs, k, hk, hxy, _, hxl, hf⟩ := DataW.trod_struct he h
  match xs, hxl with
  | [y0, y1, y2], _ =>
    have g0 := hf 0 f0 rfl
    have g1 := hf 1 f1 rfl
    have g2 := hf 2 f2 rfl
    simp [o0, o1, o2, t0, t1, t2, k0] at g0 g1 g2
    obtain ⟨n0, e0, _, _⟩ := DataW.trod_int Try.underlying2 g0
    obtain ⟨n1, e1, _, _⟩ := DataW.trod_int Try.underlying2 g1
    obtain ⟨n2, e2, _, _⟩ := DataW.trod_int Try.underlying2 g2
    cases e0; cases e1; cases e2
    exact ⟨⟨n0, n1, n2⟩, rfl, rfl, rfl⟩
theorem cmd_desc : ∃ f0 f1 f2 f3 f4 : Field, Try.prog.underlying 35 = some (.struct #[f0, f1, f2, f3, f4]) ∧ f0.offset = 0 ∧ f1.offset = 1 ∧ f2.offset = 2 ∧ f3.offset = 3 ∧ f4.offset = 4 ∧ f0.type = 32 ∧ f1.type = 5 ∧ f2.type = 33 ∧ f3.type = 33 ∧ f4.type = 3 := ⟨_, _, _, _, _, Try.underlying35, rfl, rfl, rfl, rfl, rfl, rfl, rfl, rfl, rfl, rfl⟩
theorem trod_cmd {v0 v1 v2 v3 v4 : Value} {x : DataW H × List MemPlace} (h : DataW.trod enc Try.prog W base spare held fuel 35 [v0, v1, v2, v3, v4] = some x) : ∃ c : Cm, v0 = .int .u16 c.seq ∧ v1 = .int .u8 c.but ∧ v2 = .int .i8 c.dx ∧ v3 = .int .i8 c.dy ∧ v4 = .int .i64 c.tk ∧ (Lit.int .u16 c.seq).wf = true ∧ (Lit.int .u8 c.but).wf = true ∧ (Lit.int .i8 c.dx).wf = true ∧ (Lit.int .i8 c.dy).wf = true := by
  obtain ⟨f0, f1, f2, f3, f4, he, o0, o1, o2, o3, o4, t0, t1, t2, t3, t4⟩ := cmd_desc
  have k0 : Try.prog.cellsOf 32 = 1 := by kernel_rfl
  have k1 : Try.prog.cellsOf 5 = 1 := by kernel_rfl
  have k2 : Try.prog.cellsOf 33 = 1 := by kernel_rfl
  have k4 : Try.prog.cellsOf 3 = 1 := by kernel_rfl
  obtain ⟨xs, k, hk, hxy, _, hxl, hf⟩ := DataW.trod_struct he h
  match xs, hxl with
  | [y0, y1, y2, y3, y4], _ =>
    have g0 := hf 0 f0 rfl
    have g1 := hf 1 f1 rfl
    have g2 := hf 2 f2 rfl
    have g3 := hf 3 f3 rfl
    have g4 := hf 4 f4 rfl
    simp [o0, o1, o2, o3, o4, t0, t1, t2, t3, t4, k0, k1, k2, k4] at g0 g1 g2 g3 g4
    obtain ⟨n0, e0, _, w0⟩ := DataW.trod_int Try.underlying32 g0
    obtain ⟨n1, e1, _, w1⟩ := DataW.trod_int Try.underlying5 g1
    obtain ⟨n2, e2, _, w2⟩ := DataW.trod_int Try.underlying33 g2
    obtain ⟨n3, e3, _, w3⟩ := DataW.trod_int Try.underlying33 g3
    obtain ⟨n4, e4, _, _⟩ := DataW.trod_int Try.underlying3 g4
    cases e0; cases e1; cases e2; cases e3; cases e4
    exact ⟨⟨n0, n1, n2, n3, n4⟩, rfl, rfl, rfl, rfl, rfl, w0, w1, w2, w3⟩
theorem msg_desc : ∃ f0 f1 f2 f3 f4 f5 f6 f7 f8 f9 f10 f11 f12 : Field, Try.prog.underlying 40 = some (.struct #[f0, f1, f2, f3, f4, f5, f6, f7, f8, f9, f10, f11, f12]) ∧ f0.offset = 0 ∧ f1.offset = 1 ∧ f2.offset = 2 ∧ f3.offset = 7 ∧ f4.offset = 8 ∧ f5.offset = 9 ∧ f6.offset = 10 ∧ f7.offset = 13 ∧ f8.offset = 14 ∧ f9.offset = 17 ∧ f10.offset = 20 ∧ f11.offset = 21 ∧ f12.offset = 22 ∧ f0.type = 3 ∧ f1.type = 32 ∧ f2.type = 35 ∧ f3.type = 32 ∧ f4.type = 3 ∧ f5.type = 3 ∧ f6.type = 37 ∧ f7.type = 26 ∧ f8.type = 37 ∧ f9.type = 37 ∧ f10.type = 38 ∧ f11.type = 38 ∧ f12.type = 25 :=
  ⟨_, _, _, _, _, _, _, _, _, _, _, _, _, Try.underlying40, rfl, rfl, rfl, rfl, rfl, rfl, rfl, rfl, rfl, rfl, rfl, rfl, rfl, rfl, rfl, rfl, rfl, rfl, rfl, rfl, rfl, rfl, rfl, rfl, rfl, rfl⟩
theorem wf_u16 {n : Int} (h : (Lit.int .u16 n).wf = true) : 0 ≤ n ∧ n ≤ 65535 := by simp [Lit.wf, IntKind.min, IntKind.max, IntKind.signed, IntKind.bits] at h; omega
theorem wf_u8 {n : Int} (h : (Lit.int .u8 n).wf = true) : 0 ≤ n ∧ n ≤ 255 := by simp [Lit.wf, IntKind.min, IntKind.max, IntKind.signed, IntKind.bits] at h; omega
theorem wf_i8 {n : Int} (h : (Lit.int .i8 n).wf = true) : -128 ≤ n ∧ n ≤ 127 := by simp [Lit.wf, IntKind.min, IntKind.max, IntKind.signed, IntKind.bits] at h; omega
theorem wf_u32 {n : Int} (h : (Lit.int .u32 n).wf = true) : 0 ≤ n ∧ n ≤ 4294967295 := by simp [Lit.wf, IntKind.min, IntKind.max, IntKind.signed, IntKind.bits] at h; omega
set_option maxRecDepth 100000 in
theorem trod_msg {v0 v1 v2 v3 v4 v5 v6 v7 v8 v9 v10 v11 v12 v13 v14 v15 v16 v17 v18 v19 v20 v21 v22 : Value} {x : DataW H × List MemPlace} (hs : ∀ b, spare b = true) (h : DataW.trod enc Try.prog W base spare held fuel 40 [v0, v1, v2, v3, v4, v5, v6, v7, v8, v9, v10, v11, v12, v13, v14, v15, v16, v17, v18, v19, v20, v21, v22] = some x) :
    ∃ (m : Msg) (p : Option Addr) (cap : Nat), #[v0, v1, v2, v3, v4, v5, v6, v7, v8, v9, v10, v11, v12, v13, v14, v15, v16, v17, v18, v19, v20, v21, v22] = msgC m (.slice p m.bytes.length cap) ∧ MOk m ∧ Arg W p m.bytes.length cap fun i => .int .u8 ((m.bytes.getD i 0 : Nat) : Int) := by
  obtain ⟨f0, f1, f2, f3, f4, f5, f6, f7, f8, f9, f10, f11, f12, he, o0, o1, o2, o3, o4, o5, o6, o7, o8, o9, o10, o11, o12, t0, t1, t2, t3, t4, t5, t6, t7, t8, t9, t10, t11, t12⟩ := msg_desc
  have z0 : Try.prog.cellsOf 3 = 1 := by kernel_rfl
  have z1 : Try.prog.cellsOf 32 = 1 := by kernel_rfl
  have z2 : Try.prog.cellsOf 35 = 5 := by kernel_rfl
  have z3 : Try.prog.cellsOf 37 = 3 := by kernel_rfl
  have z4 : Try.prog.cellsOf 26 = 1 := by kernel_rfl
  have z5 : Try.prog.cellsOf 38 = 1 := by kernel_rfl
  have z6 : Try.prog.cellsOf 25 = 1 := by kernel_rfl
  obtain ⟨xs, k, hk, hxy, _, hxl, hf⟩ := DataW.trod_struct he h
  clear h
  match xs, hxl with
  | [y0, y1, y2, y3, y4, y5, y6, y7, y8, y9, y10, y11, y12], _ =>
    have g0 := hf 0 f0 rfl
    simp [o0, t0, z0, z1, z2, z3, z4, z5, z6] at g0
    have g1 := hf 1 f1 rfl
    simp [o1, t1, z0, z1, z2, z3, z4, z5, z6] at g1
    have g2 := hf 2 f2 rfl
    simp [o2, t2, z0, z1, z2, z3, z4, z5, z6] at g2
    have g3 := hf 3 f3 rfl
    simp [o3, t3, z0, z1, z2, z3, z4, z5, z6] at g3
    have g4 := hf 4 f4 rfl
    simp [o4, t4, z0, z1, z2, z3, z4, z5, z6] at g4
    have g5 := hf 5 f5 rfl
    simp [o5, t5, z0, z1, z2, z3, z4, z5, z6] at g5
    have g6 := hf 6 f6 rfl
    simp [o6, t6, z0, z1, z2, z3, z4, z5, z6] at g6
    have g7 := hf 7 f7 rfl
    simp [o7, t7, z0, z1, z2, z3, z4, z5, z6] at g7
    have g8 := hf 8 f8 rfl
    simp [o8, t8, z0, z1, z2, z3, z4, z5, z6] at g8
    have g9 := hf 9 f9 rfl
    simp [o9, t9, z0, z1, z2, z3, z4, z5, z6] at g9
    have g10 := hf 10 f10 rfl
    simp [o10, t10, z0, z1, z2, z3, z4, z5, z6] at g10
    have g11 := hf 11 f11 rfl
    simp [o11, t11, z0, z1, z2, z3, z4, z5, z6] at g11
    have g12 := hf 12 f12 rfl
    simp [o12, t12, z0, z1, z2, z3, z4, z5, z6] at g12
    obtain ⟨n0, e0, _, w0⟩ := DataW.trod_int Try.underlying3 g0
    cases e0
    obtain ⟨n1, e1, _, w1⟩ := DataW.trod_int Try.underlying32 g1
    cases e1
    obtain ⟨n2, rfl, rfl, rfl, rfl, rfl, w2a, w2b, w2c, w2d⟩ := trod_cmd g2
    obtain ⟨n3, e3, _, w3⟩ := DataW.trod_int Try.underlying32 g3
    cases e3
    obtain ⟨n4, e4, _, w4⟩ := DataW.trod_int Try.underlying3 g4
    cases e4
    obtain ⟨n5, e5, _, w5⟩ := DataW.trod_int Try.underlying3 g5
    cases e5
    obtain ⟨n6, rfl, rfl, rfl⟩ := trod_vec g6
    obtain ⟨n7, e7, _, w7⟩ := DataW.trod_int Try.underlying26 g7
    cases e7
    obtain ⟨n8, rfl, rfl, rfl⟩ := trod_vec g8
    obtain ⟨n9, rfl, rfl, rfl⟩ := trod_vec g9
    obtain ⟨n10, e10, _, w10⟩ := DataW.trod_int Try.underlying38 g10
    cases e10
    obtain ⟨n11, e11, _, w11⟩ := DataW.trod_int Try.underlying38 g11
    cases e11
    obtain ⟨a, l, c, hv⟩ : ∃ a l c, v22 = .slice a l c := by
      rcases Deep.open_slice Try.underlying25 g12 with ⟨hcs, _⟩ | ⟨x, l, c, m, n, D, Pl, hcs, _⟩
      · simp at hcs; exact ⟨_, _, _, hcs⟩
      · simp at hcs; exact ⟨_, _, _, hcs⟩
    subst hv
    obtain ⟨z, hz, hzw⟩ := argI_of (a := a) (len := l) (cap := c) Try.underlying25 Try.underlying5 (by kernel_rfl) rfl hs (by simpa [Value.cells] using g12)
    obtain ⟨ys, hyl, hyb, hya⟩ := hz.bytes hzw (Nat.le_refl _)
    subst hyl
    exact ⟨⟨n0, n1, n2, n3, n4, n5, n6, n7, n8, n9, n10, n11, ys⟩, a, c, rfl, ⟨wf_u16 w1, wf_u16 w2a, wf_u8 w2b, wf_i8 w2c, wf_i8 w2d, wf_u16 w3, wf_u32 w10, wf_u32 w11, hyb⟩, hya⟩
end
end Go.Proofs.Ytkmiogaklmgnkaa
