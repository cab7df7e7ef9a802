/-
  The law ShotSpeeds, at every input: it answers true, and its arguments read behind the call as they read before. No condition.
-/
import Derived.Test.YthcmcjklhcfenaaShP
import Derived.Test.YthcmcjklhcfenaaGrArg
import Derived.ProofKit
import Derived.OpenShut
import Derived.ShutString
import Derived.ChangeOld
import Derived.Below
import Derived.Lib.SmallJoins
namespace Go.Proofs.Ythcmcjklhcfenaa.shotSpeeds
open Go.ChangeShapes Go.WideShapes Go.ChangeAt Go.RowKit Go.Joins
set_option linter.unusedVariables false

theorem own : ownKnob Try.prog.godebug = none := by kernel_rfl
theorem laidOut : laidOutB Try.prog = true := by kernel_rfl
theorem cellsVec : Try.prog.cellsOf 27 = 3 := by kernel_rfl

set_option maxRecDepth 100000 in
theorem lifted (os : Os) (started : os.Started) (H : Type) (enc : TypeId × Value → H) :
    ReturnsInHanded {} Try.checked os 6 .any (Rows.shotSpeedsSpec.pre6 enc Try.prog Try.f6 Rows.shotSpeedsRow.domain false) (Rows.shotSpeedsSpec.post enc Try.prog Try.f6 false true false false) := by
  refine returnsInHanded_of_change (C := Try.checked) own started (by kernel_rfl) Try.func6
    (ChangeSpec.witness6 (enc := enc) (C := Try.checked) false ⟨#[], #[.int .i64 0, .int .i64 0, .int .i64 0, .agg #[.int .i64 0, .int .i64 0, .int .i64 0], .agg #[.int .i64 0, .int .i64 0, .int .i64 0]], []⟩ 8 (by kernel_rfl) (by kernel_rfl) (by kernel_rfl) (by kernel_rfl)) ?_
  intro W base args ds gs before hval0 hW hcnd _
  have hval : ∀ (j : Nat) t v, Try.f6.params[j]? = some t → args[j]? = some v → Value.okWide Try.prog W .any base t v := hval0
  have hW' := hW
  obtain ⟨p, q, hA0, hV, rfl, hfz, hnd⟩ := hW
  have hA : DataW.TrodAll enc Try.prog W 0 (fun _ => true) true Try.f6.params.toList args.toList ds p := hA0
  rw [Try.params6] at hA hval
  obtain ⟨v0, vs0, d0, ds0, p0, q0, hargs, rfl, rfl, h0, r0⟩ := trodAll_cons hA
  obtain ⟨v1, vs1, d1, ds1, p1, q1, rfl, rfl, rfl, h1, r1⟩ := trodAll_cons r0
  obtain ⟨v2, vs2, d2, ds2, p2, q2, rfl, rfl, rfl, h2, r2⟩ := trodAll_cons r1
  obtain ⟨v3, vs3, d3, ds3, p3, q3, rfl, rfl, rfl, h3, r3⟩ := trodAll_cons r2
  obtain ⟨v4, vs4, d4, ds4, p4, q4, rfl, rfl, rfl, h4, r4⟩ := trodAll_cons r3
  obtain ⟨rfl, rfl, rfl⟩ := trodAll_nil r4
  obtain rfl : args = #[v0, v1, v2, v3, v4] := by cases args; simp_all
  obtain ⟨rfl, rfl⟩ := trodVars_none hV
  obtain ⟨a0, rfl, rfl, rfl, w0⟩ := open_int Try.underlying3 (hval 0 3 v0 rfl rfl) h0
  obtain ⟨a1, rfl, rfl, rfl, w1⟩ := open_int Try.underlying3 (hval 1 3 v1 rfl rfl) h1
  obtain ⟨a2, rfl, rfl, rfl, w2⟩ := open_int Try.underlying3 (hval 2 3 v2 rfl rfl) h2
  have k3 := h3
  have lt3 : ∀ x ∈ p3, x.block < W.heap.size := by obtain ⟨m, hm⟩ := k3; exact DataW.trod_lt m _ _ _ hm
  obtain ⟨c30, c31, c32, y30, y31, y32, m3, rfl, hd3, hp3, hy30, hy31, hy32⟩ := open_agg3 Try.underlying27 (by kernel_rfl) cellsVec (hval 3 27 v3 rfl rfl) h3
  obtain ⟨a30, e30, _, w30⟩ := DataW.trod_int Try.underlying2 hy30
  simp at e30; subst e30
  obtain ⟨a31, e31, _, w31⟩ := DataW.trod_int Try.underlying2 hy31
  simp at e31; subst e31
  obtain ⟨a32, e32, _, w32⟩ := DataW.trod_int Try.underlying2 hy32
  simp at e32; subst e32
  have k4 := h4
  have lt4 : ∀ x ∈ p4, x.block < W.heap.size := by obtain ⟨m, hm⟩ := k4; exact DataW.trod_lt m _ _ _ hm
  obtain ⟨c40, c41, c42, y40, y41, y42, m4, rfl, hd4, hp4, hy40, hy41, hy42⟩ := open_agg3 Try.underlying27 (by kernel_rfl) cellsVec (hval 4 27 v4 rfl rfl) h4
  obtain ⟨a40, e40, _, w40⟩ := DataW.trod_int Try.underlying2 hy40
  simp at e40; subst e40
  obtain ⟨a41, e41, _, w41⟩ := DataW.trod_int Try.underlying2 hy41
  simp at e41; subst e41
  obtain ⟨a42, e42, _, w42⟩ := DataW.trod_int Try.underlying2 hy42
  simp at e42; subst e42
  clear hA0 hval0
  refine (shotSpeeds_walk a0 a1 a2 a30 a31 a32 a40 a41 a42 W (wf_i64 w0) (wf_i64 w1) (wf_i64 w2) (wf_i64 w30) (wf_i64 w31) (wf_i64 w32) (wf_i64 w40) (wf_i64 w41) (wf_i64 w42)).mono fun e W' ⟨he, bel⟩ => ?_
  subst he
  exact ⟨_, rfl, _, _, _, [], _, [], hW', trodAll_mk1 (shut_bool Try.underlying4 _), (trodAll_cons_mk (shut_int Try.underlying3 w0) (trodAll_cons_mk (shut_int Try.underlying3 w1) (trodAll_cons_mk (shut_int Try.underlying3 w2) (trodAll_cons_mk (Below.trod laidOut (by kernel_rfl) (of_decide_eq_true (by kernel_rfl)) k3 bel lt3) (trodAll_cons_mk (Below.trod laidOut (by kernel_rfl) (of_decide_eq_true (by kernel_rfl)) k4 bel lt4) trodAll_mk0))))), rfl, bel.frame _, fun h => by cases h⟩

theorem over : Rows.shotSpeedsRow.holds Try.pinned (OpenSpec.ofChange Rows.shotSpeedsSpec) :=
  OpenClaim.holds_of_wide 6 Try.f6 rfl rfl rfl rfl rfl rfl rfl ⟨rfl, rfl, rfl, rfl, rfl⟩ rfl rfl rfl rfl rfl (by kernel_rfl) Try.func6 (by kernel_rfl)
    (of_decide_eq_true (by kernel_rfl)) (by unfold Func.isWrapper; first | (rw [if_pos (by decide +kernel)]; kernel_rfl) | (rw [if_neg (by decide +kernel)]; exact ⟨rfl, rfl⟩))
    (fun os started H enc _ => lifted os started H enc)
end Go.Proofs.Ythcmcjklhcfenaa.shotSpeeds

namespace Go.Proofs.Ythcmcjklhcfenaa
/-- The statement. -/
theorem shotSpeeds_holds : Rows.ShotSpeedsSaid := shotSpeeds.over
#print axioms shotSpeeds_holds
end Go.Proofs.Ythcmcjklhcfenaa
