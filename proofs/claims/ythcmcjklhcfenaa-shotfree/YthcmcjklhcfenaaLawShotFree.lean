/-
  The law ShotFree, at every input: it answers true, and its arguments read behind the call as they read before. No condition.
-/
import Derived.Test.YthcmcjklhcfenaaShS
import Derived.Test.YthcmcjklhcfenaaGrArg
import Derived.ProofKit
import Derived.OpenShut
import Derived.ShutString
import Derived.ChangeOld
import Derived.Below
import Derived.Lib.SmallJoins
namespace Go.Proofs.Ythcmcjklhcfenaa.shotFree
open Go.ChangeShapes Go.WideShapes Go.ChangeAt Go.RowKit Go.Joins
set_option linter.unusedVariables false

theorem own : ownKnob Try.prog.godebug = none := by kernel_rfl
theorem laidOut : laidOutB Try.prog = true := by kernel_rfl
theorem cellsVec : Try.prog.cellsOf 27 = 3 := by kernel_rfl

set_option maxRecDepth 100000 in
theorem lifted (os : Os) (started : os.Started) (H : Type) (enc : TypeId × Value → H) :
    ReturnsInHanded {} Try.checked os 3 .any (Rows.shotFreeSpec.pre6 enc Try.prog Try.f3 Rows.shotFreeRow.domain false) (Rows.shotFreeSpec.post enc Try.prog Try.f3 false true false false) := by
  refine returnsInHanded_of_change (C := Try.checked) own started (by kernel_rfl) Try.func3
    (ChangeSpec.witness6 (enc := enc) (C := Try.checked) false ⟨#[], #[.agg #[.int .i64 0, .int .i64 0, .int .i64 0, .slice none 0 0, .slice none 0 0], .int .i64 0, .agg #[.int .i64 0, .int .i64 0, .int .i64 0], .agg #[.int .i64 0, .int .i64 0, .int .i64 0]], []⟩ 8 (by kernel_rfl) (by kernel_rfl) (by kernel_rfl) (by kernel_rfl)) ?_
  intro W base args ds gs before hval0 hW hcnd _
  have hval : ∀ (j : Nat) t v, Try.f3.params[j]? = some t → args[j]? = some v → Value.okWide Try.prog W .any base t v := hval0
  have hW' := hW
  obtain ⟨p, q, hA0, hV, rfl, hfz, hnd⟩ := hW
  have hA : DataW.TrodAll enc Try.prog W 0 (fun _ => true) true Try.f3.params.toList args.toList ds p := hA0
  rw [Try.params3] at hA hval
  obtain ⟨v0, vs0, d0, ds0, p0, q0, hargs, rfl, rfl, h0, r0⟩ := trodAll_cons hA
  obtain ⟨v1, vs1, d1, ds1, p1, q1, rfl, rfl, rfl, h1, r1⟩ := trodAll_cons r0
  obtain ⟨v2, vs2, d2, ds2, p2, q2, rfl, rfl, rfl, h2, r2⟩ := trodAll_cons r1
  obtain ⟨v3, vs3, d3, ds3, p3, q3, rfl, rfl, rfl, h3, r3⟩ := trodAll_cons r2
  obtain ⟨rfl, rfl, rfl⟩ := trodAll_nil r3
  obtain rfl : args = #[v0, v1, v2, v3] := by cases args; simp_all
  obtain ⟨rfl, rfl⟩ := trodVars_none hV
  obtain ⟨cs0, rfl, hz0⟩ := okWide_struct Try.underlying25 (hval 0 25 v0 rfl rfl)
  have k0 := h0
  have lt0 : ∀ x ∈ p0, x.block < W.heap.size := by obtain ⟨m, hm⟩ := k0; exact DataW.trod_lt m _ _ _ hm
  obtain ⟨W0, D0, H0, mp0, mn0, mc0, mf0, sp0, sn0, sc0, X0, Y0, Z0, mi0⟩ : ∃ W' D' H' mp mn mc mf sp sn sc X Y Z, MapIn W cs0 W' D' H' mp mn mc mf sp sn sc X Y Z := by obtain ⟨fuel, hf⟩ := h0; exact map_of (fun _ => rfl) (hz0.trans (by kernel_rfl)) (by simpa [Value.cells] using hf)
  obtain rfl := mi0.eq
  obtain ⟨a1, rfl, rfl, rfl, w1⟩ := open_int Try.underlying3 (hval 1 3 v1 rfl rfl) h1
  have k2 := h2
  have lt2 : ∀ x ∈ p2, x.block < W.heap.size := by obtain ⟨m, hm⟩ := k2; exact DataW.trod_lt m _ _ _ hm
  obtain ⟨c20, c21, c22, y20, y21, y22, m2, rfl, hd2, hp2, hy20, hy21, hy22⟩ := open_agg3 Try.underlying27 (by kernel_rfl) cellsVec (hval 2 27 v2 rfl rfl) h2
  obtain ⟨a20, e20, _, w20⟩ := DataW.trod_int Try.underlying2 hy20
  simp at e20; subst e20
  obtain ⟨a21, e21, _, w21⟩ := DataW.trod_int Try.underlying2 hy21
  simp at e21; subst e21
  obtain ⟨a22, e22, _, w22⟩ := DataW.trod_int Try.underlying2 hy22
  simp at e22; subst e22
  have k3 := h3
  have lt3 : ∀ x ∈ p3, x.block < W.heap.size := by obtain ⟨m, hm⟩ := k3; exact DataW.trod_lt m _ _ _ hm
  obtain ⟨c30, c31, c32, y30, y31, y32, m3, rfl, hd3, hp3, hy30, hy31, hy32⟩ := open_agg3 Try.underlying27 (by kernel_rfl) cellsVec (hval 3 27 v3 rfl rfl) h3
  obtain ⟨a30, e30, _, w30⟩ := DataW.trod_int Try.underlying2 hy30
  simp at e30; subst e30
  obtain ⟨a31, e31, _, w31⟩ := DataW.trod_int Try.underlying2 hy31
  simp at e31; subst e31
  obtain ⟨a32, e32, _, w32⟩ := DataW.trod_int Try.underlying2 hy32
  simp at e32; subst e32
  clear hA0 hval0
  refine (shotFree_walk W0 D0 H0 mp0 mn0 mc0 mf0 sp0 sn0 sc0 X0 Y0 Z0 a1 a20 a21 a22 a30 a31 a32 W mi0.hW mi0.hD mi0.hH mi0.cells mi0.spawns mi0.fits (wf_i64 w1) (wf_i64 w20) (wf_i64 w21) (wf_i64 w22) (wf_i64 w30) (wf_i64 w31) (wf_i64 w32)).mono fun e W' ⟨he, bel⟩ => ?_
  subst he
  exact ⟨_, rfl, _, _, _, [], _, [], hW', trodAll_mk1 (shut_bool Try.underlying4 _), (trodAll_cons_mk (Below.trod laidOut (by kernel_rfl) (of_decide_eq_true (by kernel_rfl)) k0 bel lt0) (trodAll_cons_mk (shut_int Try.underlying3 w1) (trodAll_cons_mk (Below.trod laidOut (by kernel_rfl) (of_decide_eq_true (by kernel_rfl)) k2 bel lt2) (trodAll_cons_mk (Below.trod laidOut (by kernel_rfl) (of_decide_eq_true (by kernel_rfl)) k3 bel lt3) trodAll_mk0)))), rfl, bel.frame _, fun h => by cases h⟩

theorem over : Rows.shotFreeRow.holds Try.pinned (OpenSpec.ofChange Rows.shotFreeSpec) :=
  OpenClaim.holds_of_wide 3 Try.f3 rfl rfl rfl rfl rfl rfl rfl ⟨rfl, rfl, rfl, rfl, rfl⟩ rfl rfl rfl rfl rfl (by kernel_rfl) Try.func3 (by kernel_rfl)
    (of_decide_eq_true (by kernel_rfl)) (by unfold Func.isWrapper; first | (rw [if_pos (by decide +kernel)]; kernel_rfl) | (rw [if_neg (by decide +kernel)]; exact ⟨rfl, rfl⟩))
    (fun os started H enc _ => lifted os started H enc)
end Go.Proofs.Ythcmcjklhcfenaa.shotFree

namespace Go.Proofs.Ythcmcjklhcfenaa
/-- The statement. -/
theorem shotFree_holds : Rows.ShotFreeSaid := shotFree.over
#print axioms shotFree_holds
end Go.Proofs.Ythcmcjklhcfenaa
