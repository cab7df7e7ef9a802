/-
  The law GridTells, at every input: it answers true, and its arguments read behind the call as they read before. No condition.
-/
import Derived.Test.YtfcaekboonnmaaaGwL
import Derived.Test.YtfcaekboonnmaaaGrArg
import Derived.ProofKit
import Derived.OpenShut
import Derived.ShutString
import Derived.ChangeOld
import Derived.Below
import Derived.Lib.SmallJoins
namespace Go.Proofs.Ytfcaekboonnmaaa.gridTells
open Go.ChangeShapes Go.WideShapes Go.ChangeAt Go.RowKit Go.Joins
set_option linter.unusedVariables false

theorem own : ownKnob Try.prog.godebug = none := by kernel_rfl
theorem laidOut : laidOutB Try.prog = true := by kernel_rfl
theorem cellsVec : Try.prog.cellsOf 27 = 3 := by kernel_rfl

set_option maxRecDepth 100000 in
theorem lifted (os : Os) (started : os.Started) (H : Type) (enc : TypeId × Value → H) :
    ReturnsInHanded {} Try.checked os 3 .any (Rows.gridTellsSpec.pre6 enc Try.prog Try.f3 Rows.gridTellsRow.domain false) (Rows.gridTellsSpec.post enc Try.prog Try.f3 false true false false) := by
  refine returnsInHanded_of_change (C := Try.checked) own started (by kernel_rfl) Try.func3
    (ChangeSpec.witness6 (enc := enc) (C := Try.checked) false ⟨#[], #[.agg #[.int .i64 0, .int .i64 0, .int .i64 0, .slice none 0 0, .slice none 0 0], .int .i64 0, .int .i64 0, .int .i64 0, .agg #[.int .i64 0, .int .i64 0, .int .i64 0], .agg #[.int .i64 0, .int .i64 0, .int .i64 0]], []⟩ 8 (by kernel_rfl) (by kernel_rfl) (by kernel_rfl) (by kernel_rfl)) ?_
  intro W base args ds gs before hval0 hW hcnd _
  have hval : ∀ (j : Nat) t v, Try.f3.params[j]? = some t → args[j]? = some v → Value.okWide Try.prog W .any base t v := hval0
  have hW' := hW
  obtain ⟨p, q, hA0, hV, rfl, hfz, hnd⟩ := hW
  have hA : DataW.TrodAll enc Try.prog W 0 (fun _ => true) true Try.f3.params.toList args.toList ds p := hA0
  rw [Try.params3] at hA hval
  obtain ⟨v0, vs0, d0, ds0, p0, q0, hargs, rfl, rfl, h0, r0⟩ := trodAll_cons hA
  obtain ⟨v1, vs1, d1, ds1, p1, q1, rfl, rfl, rfl, h1, r1⟩ := trodAll_cons r0
  obtain ⟨v2, vs2, d2, ds2, p2, q2, rfl, rfl, rfl, h2, r2⟩ := trodAll_cons r1
  obtain ⟨v3, vs3, d3, ds3, p3, q3, rfl, rfl, rfl, h3, r3⟩ := trodAll_cons r2
  obtain ⟨v4, vs4, d4, ds4, p4, q4, rfl, rfl, rfl, h4, r4⟩ := trodAll_cons r3
  obtain ⟨v5, vs5, d5, ds5, p5, q5, rfl, rfl, rfl, h5, r5⟩ := trodAll_cons r4
  obtain ⟨rfl, rfl, rfl⟩ := trodAll_nil r5
  obtain rfl : args = #[v0, v1, v2, v3, v4, v5] := by cases args; simp_all
  obtain ⟨rfl, rfl⟩ := trodVars_none hV
  obtain ⟨cs0, rfl, hz0⟩ := okWide_struct Try.underlying25 (hval 0 25 v0 rfl rfl)
  have k0 := h0
  have lt0 : ∀ x ∈ p0, x.block < W.heap.size := by obtain ⟨m, hm⟩ := k0; exact DataW.trod_lt m _ _ _ hm
  obtain ⟨W0, D0, H0, mp0, mn0, mc0, mf0, sp0, sn0, sc0, X0, Y0, Z0, mi0⟩ : ∃ W' D' H' mp mn mc mf sp sn sc X Y Z, MapIn W cs0 W' D' H' mp mn mc mf sp sn sc X Y Z := by obtain ⟨fuel, hf⟩ := h0; exact map_of (fun _ => rfl) (hz0.trans (by kernel_rfl)) (by simpa [Value.cells] using hf)
  obtain rfl := mi0.eq
  obtain ⟨a1, rfl, rfl, rfl, w1⟩ := open_int Try.underlying3 (hval 1 3 v1 rfl rfl) h1
  obtain ⟨a2, rfl, rfl, rfl, w2⟩ := open_int Try.underlying3 (hval 2 3 v2 rfl rfl) h2
  obtain ⟨a3, rfl, rfl, rfl, w3⟩ := open_int Try.underlying3 (hval 3 3 v3 rfl rfl) h3
  have k4 := h4
  have lt4 : ∀ x ∈ p4, x.block < W.heap.size := by obtain ⟨m, hm⟩ := k4; exact DataW.trod_lt m _ _ _ hm
  obtain ⟨c40, c41, c42, y40, y41, y42, m4, rfl, hd4, hp4, hy40, hy41, hy42⟩ := open_agg3 Try.underlying27 (by kernel_rfl) cellsVec (hval 4 27 v4 rfl rfl) h4
  obtain ⟨a40, e40, _, w40⟩ := DataW.trod_int Try.underlying2 hy40
  simp at e40; subst e40
  obtain ⟨a41, e41, _, w41⟩ := DataW.trod_int Try.underlying2 hy41
  simp at e41; subst e41
  obtain ⟨a42, e42, _, w42⟩ := DataW.trod_int Try.underlying2 hy42
  simp at e42; subst e42
  have k5 := h5
  have lt5 : ∀ x ∈ p5, x.block < W.heap.size := by obtain ⟨m, hm⟩ := k5; exact DataW.trod_lt m _ _ _ hm
  obtain ⟨c50, c51, c52, y50, y51, y52, m5, rfl, hd5, hp5, hy50, hy51, hy52⟩ := open_agg3 Try.underlying27 (by kernel_rfl) cellsVec (hval 5 27 v5 rfl rfl) h5
  obtain ⟨a50, e50, _, w50⟩ := DataW.trod_int Try.underlying2 hy50
  simp at e50; subst e50
  obtain ⟨a51, e51, _, w51⟩ := DataW.trod_int Try.underlying2 hy51
  simp at e51; subst e51
  obtain ⟨a52, e52, _, w52⟩ := DataW.trod_int Try.underlying2 hy52
  simp at e52; subst e52
  clear hA0 hval0
  refine (gridTells_walk W0 D0 H0 mp0 mn0 mc0 mf0 sp0 sn0 sc0 X0 Y0 Z0 a1 a2 a3 a40 a41 a42 a50 a51 a52 W mi0.hW mi0.hD mi0.hH mi0.cells mi0.spawns mi0.fits (wf_i64 w1) (wf_i64 w2) (wf_i64 w3) (wf_i64 w40) (wf_i64 w41) (wf_i64 w42) (wf_i64 w50) (wf_i64 w51) (wf_i64 w52)).mono fun e W' ⟨he, bel⟩ => ?_
  subst he
  exact ⟨_, rfl, _, _, _, [], _, [], hW', trodAll_mk1 (shut_bool Try.underlying4 _), (trodAll_cons_mk (Below.trod laidOut (by kernel_rfl) (of_decide_eq_true (by kernel_rfl)) k0 bel lt0) (trodAll_cons_mk (shut_int Try.underlying3 w1) (trodAll_cons_mk (shut_int Try.underlying3 w2) (trodAll_cons_mk (shut_int Try.underlying3 w3) (trodAll_cons_mk (Below.trod laidOut (by kernel_rfl) (of_decide_eq_true (by kernel_rfl)) k4 bel lt4) (trodAll_cons_mk (Below.trod laidOut (by kernel_rfl) (of_decide_eq_true (by kernel_rfl)) k5 bel lt5) trodAll_mk0)))))), rfl, bel.frame _, fun h => by cases h⟩

theorem over : Rows.gridTellsRow.holds Try.pinned (OpenSpec.ofChange Rows.gridTellsSpec) :=
  OpenClaim.holds_of_wide 3 Try.f3 rfl rfl rfl rfl rfl rfl rfl ⟨rfl, rfl, rfl, rfl, rfl⟩ rfl rfl rfl rfl rfl (by kernel_rfl) Try.func3 (by kernel_rfl)
    (of_decide_eq_true (by kernel_rfl)) (by unfold Func.isWrapper; first | (rw [if_pos (by decide +kernel)]; kernel_rfl) | (rw [if_neg (by decide +kernel)]; exact ⟨rfl, rfl⟩))
    (fun os started H enc _ => lifted os started H enc)
end Go.Proofs.Ytfcaekboonnmaaa.gridTells

namespace Go.Proofs.Ytfcaekboonnmaaa
/-- The statement. -/
theorem gridTells_holds : Rows.GridTellsSaid := gridTells.over
#print axioms gridTells_holds
end Go.Proofs.Ytfcaekboonnmaaa
