/-
  The law MessageFields, at every input: it answers true, and its arguments read behind the call as they read before. No condition.
-/
import Derived.Test.YtnflpgbmhllnaaaMtWa
import Derived.Test.YtnflpgbmhllnaaaMtWb
import Derived.Test.YtnflpgbmhllnaaaMtWc
import Derived.Test.YtnflpgbmhllnaaaMtWd
import Derived.Test.YtnflpgbmhllnaaaMtWe
import Derived.Test.YtnflpgbmhllnaaaMsV
namespace Go.Proofs.Ytnflpgbmhllnaaa
open Go.RowKit Go.Shelf
set_option linter.unusedVariables false

theorem messageFields_walk (m : Msg) (p : Option Addr) (cap : Nat) (field n : Int) (w : World) (hm : MOk m) (ha : Arg w p m.bytes.length cap fun i => .int .u8 ((m.bytes.getD i 0 : Nat) : Int)) (hf : (Lit.int .i64 field).wf = true) (hn : (Lit.int .i64 n).wf = true) :
    Calls Try.prog 7 #[.agg (msgC m (.slice p m.bytes.length cap)), .int .i64 field, .int .i64 n] w fun e w' => e = .returned (.bool true) ∧ Below w.heap.size w w' := by
  obtain ⟨K16, hK16, hmask⟩ := mask (m := 65535) (x := field) (k := 16) (by decide) (by decide)
  obtain ⟨f, hr⟩ : ∃ f, K16 % 12 = f := ⟨_, rfl⟩
  have hrem : Int.tmod (K16 : Int) 12 = (f : Int) := by rw [← hr]; exact (Int.ofNat_tmod K16 12).symm
  have h12 : f = 0 ∨ f = 1 ∨ f = 2 ∨ f = 3 ∨ f = 4 ∨ f = 5 ∨ f = 6 ∨ f = 7 ∨ f = 8 ∨ f = 9 ∨ f = 10 ∨ f = 11 := by omega
  rcases h12 with rfl | rfl | rfl | rfl | rfl | rfl | rfl | rfl | rfl | rfl | rfl | rfl
  · exact fields_0 m p cap field n w hm ha K16 hmask hrem
  · exact fields_1 m p cap field n w hm ha K16 hmask hrem
  · exact fields_2 m p cap field n w hm ha K16 hmask hrem
  · exact fields_3 m p cap field n w hm ha K16 hmask hrem
  · exact fields_4 m p cap field n w hm ha K16 hmask hrem
  · exact fields_5 m p cap field n w hm ha K16 hmask hrem
  · exact fields_6 m p cap field n w hm ha K16 hmask hrem
  · exact fields_7 m p cap field n w hm ha K16 hmask hrem
  · exact fields_8 m p cap field n w hm ha K16 hmask hrem
  · exact fields_9 m p cap field n w hm ha K16 hmask hrem
  · exact fields_10 m p cap field n w hm ha K16 hmask hrem
  · exact fields_11 m p cap field n w hm ha K16 hmask hrem
end Go.Proofs.Ytnflpgbmhllnaaa
namespace Go.Proofs.Ytnflpgbmhllnaaa.messageFields
open Go.ChangeShapes Go.WideShapes Go.ChangeAt Go.RowKit Go.Joins
set_option linter.unusedVariables false

theorem own : ownKnob Try.prog.godebug = none := by kernel_rfl
theorem laidOut : laidOutB Try.prog = true := by kernel_rfl

set_option maxRecDepth 100000 in
theorem lifted (os : Os) (started : os.Started) (H : Type) (enc : TypeId × Value → H) :
    ReturnsInHanded {} Try.checked os 7 .any (Rows.messageFieldsSpec.pre6 enc Try.prog Try.f7 Rows.messageFieldsRow.domain false) (Rows.messageFieldsSpec.post enc Try.prog Try.f7 false true false false) := by
  refine returnsInHanded_of_change (C := Try.checked) own started (by kernel_rfl) Try.func7
    (ChangeSpec.witness6 (enc := enc) (C := Try.checked) false ⟨#[], #[.agg #[.int .i64 0, .int .u16 0, .int .u16 0, .int .u8 0, .int .i8 0, .int .i8 0, .int .i64 0, .int .u16 0, .int .i64 0, .int .i64 0, .int .i64 0, .int .i64 0, .int .i64 0, .int .i64 0, .int .i64 0, .int .i64 0, .int .i64 0, .int .i64 0, .int .i64 0, .int .i64 0, .int .u32 0, .int .u32 0, .slice none 0 0], .int .i64 0, .int .i64 0], []⟩ 8 (by kernel_rfl) (by kernel_rfl) (by kernel_rfl) (by kernel_rfl)) ?_
  intro W base args ds gs before hval0 hW hcnd _
  have hval : ∀ (j : Nat) t v, Try.f7.params[j]? = some t → args[j]? = some v → Value.okWide Try.prog W .any base t v := hval0
  have hW' := hW
  obtain ⟨p, q, hA0, hV, rfl, hfz, hnd⟩ := hW
  have hA : DataW.TrodAll enc Try.prog W 0 (fun _ => true) true Try.f7.params.toList args.toList ds p := hA0
  rw [Try.params7] at hA hval
  obtain ⟨v0, vs0, d0, ds0, p0, q0, hargs, rfl, rfl, h0, r0⟩ := trodAll_cons hA
  obtain ⟨v1, vs1, d1, ds1, p1, q1, rfl, rfl, rfl, h1, r1⟩ := trodAll_cons r0
  obtain ⟨v2, vs2, d2, ds2, p2, q2, rfl, rfl, rfl, h2, r2⟩ := trodAll_cons r1
  obtain ⟨rfl, rfl, rfl⟩ := trodAll_nil r2
  obtain rfl : args = #[v0, v1, v2] := by cases args; simp_all
  obtain ⟨rfl, rfl⟩ := trodVars_none hV
  obtain ⟨cs0, rfl, hz0⟩ := okWide_struct Try.underlying40 (hval 0 40 v0 rfl rfl)
  have k0 := h0
  have lt0 : ∀ x ∈ p0, x.block < W.heap.size := by obtain ⟨m, hm⟩ := k0; exact DataW.trod_lt m _ _ _ hm
  obtain ⟨m0, b0, c0, rfl, w0, x0⟩ : ∃ (m : Msg) (p : Option Addr) (cap : Nat), cs0 = msgC m (.slice p m.bytes.length cap) ∧ MOk m ∧ Arg W p m.bytes.length cap fun i => .int .u8 ((m.bytes.getD i 0 : Nat) : Int) := by obtain ⟨fuel, hf⟩ := h0; exact argMsg_of (fun _ => rfl) (hz0.trans (by kernel_rfl)) hf
  obtain ⟨a1, rfl, rfl, rfl, w1⟩ := open_int Try.underlying3 (hval 1 3 v1 rfl rfl) h1
  obtain ⟨a2, rfl, rfl, rfl, w2⟩ := open_int Try.underlying2 (hval 2 2 v2 rfl rfl) h2
  clear hA0 hval0
  refine (messageFields_walk m0 b0 c0 a1 a2 W w0 x0 w1 w2).mono fun e W' ⟨he, bel⟩ => ?_
  subst he
  exact ⟨_, rfl, _, _, _, [], _, [], hW', trodAll_mk1 (shut_bool Try.underlying4 _), (trodAll_cons_mk (Below.trod laidOut (by kernel_rfl) (of_decide_eq_true (by kernel_rfl)) k0 bel lt0) (trodAll_cons_mk (shut_int Try.underlying3 w1) (trodAll_cons_mk (shut_int Try.underlying2 w2) trodAll_mk0))), rfl, bel.frame _, fun h => by cases h⟩

theorem over : Rows.messageFieldsRow.holds Try.pinned (OpenSpec.ofChange Rows.messageFieldsSpec) :=
  OpenClaim.holds_of_wide 7 Try.f7 rfl rfl rfl rfl rfl rfl rfl ⟨rfl, rfl, rfl, rfl, rfl⟩ rfl rfl rfl rfl rfl (by kernel_rfl) Try.func7 (by kernel_rfl)
    (of_decide_eq_true (by kernel_rfl)) (by unfold Func.isWrapper; first | (rw [if_pos (by decide +kernel)]; kernel_rfl) | (rw [if_neg (by decide +kernel)]; exact ⟨rfl, rfl⟩))
    (fun os started H enc _ => lifted os started H enc)
end Go.Proofs.Ytnflpgbmhllnaaa.messageFields

namespace Go.Proofs.Ytnflpgbmhllnaaa
/-- The statement. -/
theorem messageFields_holds : Rows.MessageFieldsSaid := messageFields.over
#print axioms messageFields_holds
end Go.Proofs.Ytnflpgbmhllnaaa
