/- Layer 11 (walk): the walk of the law WalkStill. -/
import Derived.Test.YtjjdclckkhddbaaWlA
namespace Go.Proofs.Ytjjdclckkhddbaa
open Go.RowKit
set_option linter.unusedVariables false
set_option linter.unusedSimpArgs false
attribute [local go_sem ↓] Go.wp_at_zero Go.wp_at_succ

set_option maxRecDepth 100000 in
set_option maxHeartbeats 4000000 in
theorem walkStill_walk (W D H : Int) (mp : Option Addr) (mn mc : Nat) (mf : Nat → Bool) (sp : Option Addr) (sn sc : Nat) (X Y Z : Nat → Int) (p : Pl) (c : Cm) (w : World) (hW : I64 W) (hD : I64 D) (hH : I64 H) (hm : Arg w mp mn mc fun i => .bool (mf i)) (hv : ArgW w sp sn sc X Y Z) (hX : ∀ i, I64 (X i) ∧ I64 (Y i) ∧ I64 (Z i)) (hpw : p.Wf) (hpf : p.Full) (hc : c.Wf) :
    Calls Try.prog 7 #[.agg #[.int .i64 W, .int .i64 D, .int .i64 H, .slice mp mn mc, .slice sp sn sc], .agg #[.int .i64 p.id, .int .i64 p.px, .int .i64 p.py, .int .i64 p.pz, .int .i64 p.vx, .int .i64 p.vy, .int .i64 p.vz, .bool p.gr, .int .i64 p.he, .int .i64 p.ar, .int .i64 p.sc, .int .i64 p.a0, .int .i64 p.a1, .int .i64 p.wa, .int .i64 p.de], .agg #[.int .u16 c.sq, .int .u8 c.bt, .int .i8 c.dx, .int .i8 c.dy, .int .i64 c.tk]] w fun e w' => e = .returned (.bool true) ∧ Below w.heap.size w w' := by
  obtain ⟨R, hR⟩ := (mpOf W D H mn mf).roomOf
  obtain ⟨sr, hsr⟩ := boolOf ((mpOf W D H mn mf).RightP sn X Y Z)
  obtain ⟨sm, hsm⟩ : ∃ s, (decide (W ≤ 10) && decide (D ≤ 10) && decide (H ≤ 10) && sr) = s := ⟨_, rfl⟩
  have HSM := hid (fun V (hV : Below w.heap.size w V) => lawSmall11 W D H mp mn mc mf sp sn sc X Y Z hX sr hsr V (hm.keep hV) (hv.keep hV))
  rw [hsm] at HSM
  obtain ⟨f, hf⟩ : ∃ f, rtB R p = f := ⟨_, rfl⟩
  have HRI := hid (fun V (hV : Below w.heap.size w V) => walkRight W D H mp mn mc mf sp sn sc R hR p hpw f hf V (hm.keep hV))
  have HF := hid hf
  have HM := hid (fun V (hV : Below w.heap.size w V) => hm.keep hV)
  clear hsm hsr hf
  have HRR := hid hR
  clear hW hD hH hX hv hm hR
  have O : O5 (((w.alloc (.cells #[.int .i64 W, .int .i64 D, .int .i64 H, .slice mp mn mc, .slice sp sn sc] 25)).alloc (.cells #[.int .i64 p.id, .int .i64 p.px, .int .i64 p.py, .int .i64 p.pz, .int .i64 p.vx, .int .i64 p.vy, .int .i64 p.vz, .bool p.gr, .int .i64 p.he, .int .i64 p.ar, .int .i64 p.sc, .int .i64 p.a0, .int .i64 p.a1, .int .i64 p.wa, .int .i64 p.de] 30)).alloc (.cells #[.int .u16 c.sq, .int .u8 c.bt, .int .i8 c.dx, .int .i8 c.dy, .int .i64 c.tk] 34)) (w.heap.size) (.int .i64 W) (.int .i64 D) (.int .i64 H) (.slice mp mn mc) (.slice sp sn sc) := ((O5.new _ _ _ _ _ _).alloc _).alloc _
  have P : PlAt (((w.alloc (.cells #[.int .i64 W, .int .i64 D, .int .i64 H, .slice mp mn mc, .slice sp sn sc] 25)).alloc (.cells #[.int .i64 p.id, .int .i64 p.px, .int .i64 p.py, .int .i64 p.pz, .int .i64 p.vx, .int .i64 p.vy, .int .i64 p.vz, .bool p.gr, .int .i64 p.he, .int .i64 p.ar, .int .i64 p.sc, .int .i64 p.a0, .int .i64 p.a1, .int .i64 p.wa, .int .i64 p.de] 30)).alloc (.cells #[.int .u16 c.sq, .int .u8 c.bt, .int .i8 c.dx, .int .i8 c.dy, .int .i64 c.tk] 34)) (w.heap.size + 1) p := (PlAt.new' _ _ (by simp)).alloc _
  have C : CmAt (((w.alloc (.cells #[.int .i64 W, .int .i64 D, .int .i64 H, .slice mp mn mc, .slice sp sn sc] 25)).alloc (.cells #[.int .i64 p.id, .int .i64 p.px, .int .i64 p.py, .int .i64 p.pz, .int .i64 p.vx, .int .i64 p.vy, .int .i64 p.vz, .bool p.gr, .int .i64 p.he, .int .i64 p.ar, .int .i64 p.sc, .int .i64 p.a0, .int .i64 p.a1, .int .i64 p.wa, .int .i64 p.de] 30)).alloc (.cells #[.int .u16 c.sq, .int .u8 c.bt, .int .i8 c.dx, .int .i8 c.dy, .int .i64 c.tk] 34)) (w.heap.size + 1 + 1) c := CmAt.new' _ _ (by simp)
  have HB : Below w.heap.size w (((w.alloc (.cells #[.int .i64 W, .int .i64 D, .int .i64 H, .slice mp mn mc, .slice sp sn sc] 25)).alloc (.cells #[.int .i64 p.id, .int .i64 p.px, .int .i64 p.py, .int .i64 p.pz, .int .i64 p.vx, .int .i64 p.vy, .int .i64 p.vz, .bool p.gr, .int .i64 p.he, .int .i64 p.ar, .int .i64 p.sc, .int .i64 p.a0, .int .i64 p.a1, .int .i64 p.wa, .int .i64 p.de] 30)).alloc (.cells #[.int .u16 c.sq, .int .u8 c.bt, .int .i8 c.dx, .int .i8 c.dy, .int .i64 c.tk] 34)) := (((Below.refl _ _).alloc (Nat.le_refl _) _).alloc (by simp) _).alloc (by simp; omega) _
  go_enter Try.func7, Try.ntmps7
  go_upto_region 1 with fail
  obtain ⟨mb, hmb⟩ : ∃ b, w.heap.size = b := ⟨_, rfl⟩
  have hwm : w.heap.size ≤ mb := by omega
  rw [hmb] at O P C
  try simp only [hmb]
  generalize (((w.alloc (.cells #[.int .i64 W, .int .i64 D, .int .i64 H, .slice mp mn mc, .slice sp sn sc] 25)).alloc (.cells #[.int .i64 p.id, .int .i64 p.px, .int .i64 p.py, .int .i64 p.pz, .int .i64 p.vx, .int .i64 p.vy, .int .i64 p.vz, .bool p.gr, .int .i64 p.he, .int .i64 p.ar, .int .i64 p.sc, .int .i64 p.a0, .int .i64 p.a1, .int .i64 p.wa, .int .i64 p.de] 30)).alloc (.cells #[.int .u16 c.sq, .int .u8 c.bt, .int .i8 c.dx, .int .i8 c.dy, .int .i64 c.tk] 34)) = V0 at *
  clear hmb
  go_wp2_with fail
  refine (lawShown11 _).mono ?_; rintro e V1 ⟨rfl, bq⟩
  replace O := O.keep bq; replace P := P.keep bq; replace C := C.keep bq; replace HB := btrans HB bq
  clear bq
  obtain ⟨cO0, cO1, cO2, cO3, cO4⟩ := O.cells
  go_wp2_with fail
  refine (HSM.out _ HB).mono ?_; rintro e V2 ⟨rfl, bq⟩
  clear cO0 cO1 cO2 cO3 cO4
  replace O := O.keep bq; replace P := P.keep bq; replace C := C.keep bq; replace HB := btrans HB bq
  clear bq
  clear HSM
  cases sm with
  | false =>
    clear O P HM HF HRI
    go_wp2
    go_ret
    exact ⟨rfl, HB⟩
  | true =>
    obtain ⟨cO0, cO1, cO2, cO3, cO4⟩ := O.cells
    go_wp2_with (refine wpList_ldP (by rfl) _ rfl _ _ rfl (by assumption) ?_)
    refine (HRI.out _ HB).mono ?_; rintro e V3 ⟨rfl, bq⟩
    clear cO0 cO1 cO2 cO3 cO4
    replace O := O.keep bq; replace P := P.keep bq; replace C := C.keep bq; replace HB := btrans HB bq
    clear bq
    clear HRI
    cases f with
    | false =>
      clear O P HM HF
      go_wp2
      go_ret
      exact ⟨rfl, HB⟩
    | true =>
      have HRT := hid ((rtB_iff hpw).1 HF.out)
      clear HF
      obtain ⟨cC0, cC1, cC2, cC3, cC4⟩ := C.cells
      obtain ⟨tC0, tC1, tC2, tC3, tC4⟩ := C.thaw
      go_upto_region 5 with fail
      clear cC0 cC1 cC2 cC3 cC4 tC0 tC1 tC2 tC3 tC4
      replace O := O.fr (fr1 _ (mb + 1 + 1) 4 (.int .i64 0)) (show ¬ (mb = mb + 1 + 1) by omega)
      replace P := P.fr (fr1 _ (mb + 1 + 1) 4 (.int .i64 0)) (show ¬ (mb + 1 = mb + 1 + 1) by omega)
      replace C := C.s4 0
      replace HB := below_fr HB (fr1 _ (mb + 1 + 1) 4 (.int .i64 0)) (Nat.le_refl _) (by intro k hk; replace hk : k = mb + 1 + 1 := hk; omega)
      generalize V3.setCell ⟨mb + 1 + 1, 4, none⟩ (.int .i64 0) = V4 at *
      obtain ⟨c0, hc0⟩ : ∃ d : Cm, ({ c with tk := 0 } : Cm) = d := ⟨_, rfl⟩
      replace C : CmAt V4 (mb + 1 + 1) c0 := by rw [← hc0]; exact C
      have wc0 : c0.Wf := hc0 ▸ ⟨hc.b0, hc.b1, hc.x0, hc.x1, hc.y0, hc.y1, ⟨(by decide : (-9223372036854775808 : Int) ≤ 0), (by decide : (0 : Int) ≤ 9223372036854775807)⟩⟩
      have tc0 : c0.tk = 0 := hc0 ▸ rfl
      replace tc0 := hid tc0; replace hc0 := hid hc0
      have HA := hid (step_0 (R := R) (p := p) (c := c0) (by rw [tc0.out]; decide))
      go_cut [8] from 25 to 28 (fun v wx => ∃ (b : Nat) (U : World), v = .pointer (some ⟨b, 0, none⟩) ∧ wx = U ∧ PlAt U b p ∧ Below V4.heap.size V4 U ∧ V4.heap.size ≤ b)
      case first =>
        obtain ⟨cO0, cO1, cO2, cO3, cO4⟩ := O.cells
        obtain ⟨cC0, cC1, cC2, cC3, cC4⟩ := C.cells
        go_wp2_with (refine wpList_ldP (by rfl) _ rfl _ _ rfl (by assumption) ?_)
        refine (walkStep W D H mp mn mc mf sp sn sc R HRR.out p HRT.out c0 wc0 p HA.out _ (HM.out _ HB)).mono ?_; rintro e VV ⟨rfl, bq⟩
        clear cO0 cO1 cO2 cO3 cO4 cC0 cC1 cC2 cC3 cC4 O P C 
        have hz : PlAt (VV.alloc (.cells #[.int .i64 0, .int .i64 0, .int .i64 0, .int .i64 0, .int .i64 0, .int .i64 0, .int .i64 0, .bool false, .int .i64 0, .int .i64 0, .int .i64 0, .int .i64 0, .int .i64 0, .int .i64 0, .int .i64 0] 30)) VV.heap.size noPl := PlAt.new VV noPl
        go_wp2_with (refine wpList_stP (by rfl) _ _ rfl _ _ (p) rfl rfl (by assumption) (fun V9 hN hF => ?_))
        go_meet
        exact ⟨_, _, rfl, rfl, hN, below_fr (bq.alloc bq.size _) hF (Nat.le_refl _) (by intro k hk; replace hk : k = _ := hk; rw [hk]; exact bq.size), bq.size⟩
      case rest =>
      obtain ⟨ab, V5, rfl, eU, A, G, hab⟩ := hcut
      replace eU := eU.symm
      subst eU
      have lO := O.lt
      have lP := P.lt
      have lC := C.lt
      replace O := O.keep G; replace P := P.keep G; replace C := C.keep G; replace HB := btrans HB G
      clear G
      replace C : CmAt V5 (mb + 1 + 1) { c with tk := 0 } := by rw [hc0.out]; exact C
      clear HA wc0 tc0 hc0 c0
      obtain ⟨cC0, cC1, cC2, cC3, cC4⟩ := C.cells
      obtain ⟨tC0, tC1, tC2, tC3, tC4⟩ := C.thaw
      go_upto_region 7 with fail
      clear cC0 cC1 cC2 cC3 cC4 tC0 tC1 tC2 tC3 tC4
      replace O := O.fr (fr1 _ (mb + 1 + 1) 4 (.int .i64 9)) (show ¬ (mb = mb + 1 + 1) by omega)
      replace P := P.fr (fr1 _ (mb + 1 + 1) 4 (.int .i64 9)) (show ¬ (mb + 1 = mb + 1 + 1) by omega)
      replace C := C.s4 9
      replace A := A.fr (fr1 _ (mb + 1 + 1) 4 (.int .i64 9)) (show ¬ (ab = mb + 1 + 1) by omega)
      replace HB := below_fr HB (fr1 _ (mb + 1 + 1) 4 (.int .i64 9)) (Nat.le_refl _) (by intro k hk; replace hk : k = mb + 1 + 1 := hk; omega)
      generalize V5.setCell ⟨mb + 1 + 1, 4, none⟩ (.int .i64 9) = V6 at *
      obtain ⟨c9, hc9⟩ : ∃ d : Cm, ({ c with tk := 9 } : Cm) = d := ⟨_, rfl⟩
      replace C : CmAt V6 (mb + 1 + 1) c9 := by rw [← hc9]; exact C
      have wc9 : c9.Wf := hc9 ▸ ⟨hc.b0, hc.b1, hc.x0, hc.x1, hc.y0, hc.y1, ⟨(by decide : (-9223372036854775808 : Int) ≤ 9), (by decide : (9 : Int) ≤ 9223372036854775807)⟩⟩
      have tc9 : c9.tk = 9 := hc9 ▸ rfl
      replace tc9 := hid tc9; replace hc9 := hid hc9
      have HA := hid (step_9 (R := R) (p := p) (c := c9) (by rw [tc9.out]; decide))
      go_cut [9] from 30 to 33 (fun v wx => ∃ (b : Nat) (U : World), v = .pointer (some ⟨b, 0, none⟩) ∧ wx = U ∧ PlAt U b p ∧ Below V6.heap.size V6 U ∧ V6.heap.size ≤ b)
      case first =>
        obtain ⟨cO0, cO1, cO2, cO3, cO4⟩ := O.cells
        obtain ⟨cC0, cC1, cC2, cC3, cC4⟩ := C.cells
        go_wp2_with (refine wpList_ldP (by rfl) _ rfl _ _ rfl (by assumption) ?_)
        refine (walkStep W D H mp mn mc mf sp sn sc R HRR.out p HRT.out c9 wc9 p HA.out _ (HM.out _ HB)).mono ?_; rintro e VV ⟨rfl, bq⟩
        clear cO0 cO1 cO2 cO3 cO4 cC0 cC1 cC2 cC3 cC4 O P C A 
        have hz : PlAt (VV.alloc (.cells #[.int .i64 0, .int .i64 0, .int .i64 0, .int .i64 0, .int .i64 0, .int .i64 0, .int .i64 0, .bool false, .int .i64 0, .int .i64 0, .int .i64 0, .int .i64 0, .int .i64 0, .int .i64 0, .int .i64 0] 30)) VV.heap.size noPl := PlAt.new VV noPl
        go_wp2_with (refine wpList_stP (by rfl) _ _ rfl _ _ (p) rfl rfl (by assumption) (fun V9 hN hF => ?_))
        go_meet
        exact ⟨_, _, rfl, rfl, hN, below_fr (bq.alloc bq.size _) hF (Nat.le_refl _) (by intro k hk; replace hk : k = _ := hk; rw [hk]; exact bq.size), bq.size⟩
      case rest =>
      obtain ⟨bb, V7, rfl, eU, B, G, hbb⟩ := hcut
      replace eU := eU.symm
      subst eU
      have lO := O.lt
      have lP := P.lt
      have lC := C.lt
      have lA := A.lt
      replace O := O.keep G; replace P := P.keep G; replace C := C.keep G; replace A := A.keep G; replace HB := btrans HB G
      clear G
      replace C : CmAt V7 (mb + 1 + 1) { c with tk := 9 } := by rw [hc9.out]; exact C
      clear HA wc9 tc9 hc9 c9
      go_upto_region 8 with fail
      go_cut [10] from 34 to 34 (fun v wx => ∃ (b : Nat) (U : World), v = .pointer (some ⟨b, 0, none⟩) ∧ wx = U ∧ PlAt U b p ∧ Below V7.heap.size V7 U ∧ V7.heap.size ≤ b)
      case first =>
        have hz : PlAt (V7.alloc (.cells #[.int .i64 0, .int .i64 0, .int .i64 0, .int .i64 0, .int .i64 0, .int .i64 0, .int .i64 0, .bool false, .int .i64 0, .int .i64 0, .int .i64 0, .int .i64 0, .int .i64 0, .int .i64 0, .int .i64 0] 30)) V7.heap.size noPl := PlAt.new V7 noPl
        go_wp2_with (first | (refine wpList_ldP (by rfl) _ rfl _ _ rfl (by assumption) ?_) | (refine wpList_stP (by rfl) _ _ rfl _ _ (p) rfl rfl (by assumption) (fun V9 hN hF => ?_)))
        go_meet
        exact ⟨_, _, rfl, rfl, hN, below_fr ((Below.refl _ _).alloc (Nat.le_refl _) _) hF (Nat.le_refl _) (by intro k hk; replace hk : k = _ := hk; rw [hk]; exact Nat.le_refl _), Nat.le_refl _⟩
      case rest =>
      obtain ⟨db, V8, rfl, eU, L, G, hdb⟩ := hcut
      replace eU := eU.symm
      subst eU
      have lO := O.lt
      have lP := P.lt
      have lC := C.lt
      have lA := A.lt
      have lB := B.lt
      replace O := O.keep G; replace P := P.keep G; replace C := C.keep G; replace A := A.keep G; replace B := B.keep G; replace HB := btrans HB G
      clear G
      obtain ⟨m, hm8, hm⟩ := mask (m := 7) (x := p.de) (k := 3) rfl (by omega)
      have ew : IntKind.i64.wrap (1 + (m : Int)) = 1 + (m : Int) := wrapI (by omega) (by omega)
      obtain ⟨z, hz⟩ : ∃ z : Int, 1 + (m : Int) = z := ⟨_, rfl⟩
      rw [hz] at ew
      have hz0 : 0 < z := by omega
      have hz9 : z < 9 := by omega
      go_upto_region 9 with fail
      obtain ⟨cP0, cP1, cP2, cP3, cP4, cP5, cP6, cP7, cP8, cP9, cP10, cP11, cP12, cP13, cP14⟩ := P.cells
      obtain ⟨cL0, cL1, cL2, cL3, cL4, cL5, cL6, cL7, cL8, cL9, cL10, cL11, cL12, cL13, cL14⟩ := L.cells
      obtain ⟨tL0, tL1, tL2, tL3, tL4, tL5, tL6, tL7, tL8, tL9, tL10, tL11, tL12, tL13, tL14⟩ := L.thaw
      go_upto_region 10 with fail
      clear cP0 cP1 cP2 cP3 cP4 cP5 cP6 cP7 cP8 cP9 cP10 cP11 cP12 cP13 cP14 cL0 cL1 cL2 cL3 cL4 cL5 cL6 cL7 cL8 cL9 cL10 cL11 cL12 cL13 cL14 tL0 tL1 tL2 tL3 tL4 tL5 tL6 tL7 tL8 tL9 tL10 tL11 tL12 tL13 tL14
      replace O := O.fr (fr1 _ db 14 (.int .i64 z)) (show ¬ (mb = db) by omega)
      replace P := P.fr (fr1 _ db 14 (.int .i64 z)) (show ¬ (mb + 1 = db) by omega)
      replace C := C.fr (fr1 _ db 14 (.int .i64 z)) (show ¬ (mb + 1 + 1 = db) by omega)
      replace A := A.fr (fr1 _ db 14 (.int .i64 z)) (show ¬ (ab = db) by omega)
      replace B := B.fr (fr1 _ db 14 (.int .i64 z)) (show ¬ (bb = db) by omega)
      replace L := L.s14 z
      replace HB := below_fr HB (fr1 _ db 14 (.int .i64 z)) (Nat.le_refl _) (by intro k hk; replace hk : k = db := hk; omega)
      generalize V8.setCell ⟨db, 14, none⟩ (.int .i64 z) = V9 at *
      obtain ⟨d, hd⟩ : ∃ d : Pl, ({ p with de := z } : Pl) = d := ⟨_, rfl⟩
      rw [hd] at L
      have hdd : d.de > 0 := hd ▸ hz0
      have HRD := hid (hd ▸ ⟨⟨HRT.out.w.x, HRT.out.w.y, HRT.out.w.z, HRT.out.w.a, HRT.out.w.b, HRT.out.w.c⟩, HRT.out.f, ⟨HRT.out.s.a0, HRT.out.s.a1, HRT.out.s.b0, HRT.out.s.b1, HRT.out.s.c0, HRT.out.s.c1⟩⟩ : Rt R d)
      clear hd hz hz0 hz9 ew hm hm8
      obtain ⟨cC0, cC1, cC2, cC3, cC4⟩ := C.cells
      obtain ⟨tC0, tC1, tC2, tC3, tC4⟩ := C.thaw
      go_upto_region 11 with fail
      clear cC0 cC1 cC2 cC3 cC4 tC0 tC1 tC2 tC3 tC4
      replace O := O.fr (fr1 _ (mb + 1 + 1) 4 (.int .i64 3)) (show ¬ (mb = mb + 1 + 1) by omega)
      replace P := P.fr (fr1 _ (mb + 1 + 1) 4 (.int .i64 3)) (show ¬ (mb + 1 = mb + 1 + 1) by omega)
      replace C := C.s4 3
      replace A := A.fr (fr1 _ (mb + 1 + 1) 4 (.int .i64 3)) (show ¬ (ab = mb + 1 + 1) by omega)
      replace B := B.fr (fr1 _ (mb + 1 + 1) 4 (.int .i64 3)) (show ¬ (bb = mb + 1 + 1) by omega)
      replace L := L.fr (fr1 _ (mb + 1 + 1) 4 (.int .i64 3)) (show ¬ (db = mb + 1 + 1) by omega)
      replace HB := below_fr HB (fr1 _ (mb + 1 + 1) 4 (.int .i64 3)) (Nat.le_refl _) (by intro k hk; replace hk : k = mb + 1 + 1 := hk; omega)
      generalize V9.setCell ⟨mb + 1 + 1, 4, none⟩ (.int .i64 3) = V10 at *
      obtain ⟨c3, hc3⟩ : ∃ d : Cm, ({ c with tk := 3 } : Cm) = d := ⟨_, rfl⟩
      replace C : CmAt V10 (mb + 1 + 1) c3 := by rw [← hc3]; exact C
      have wc3 : c3.Wf := hc3 ▸ ⟨hc.b0, hc.b1, hc.x0, hc.x1, hc.y0, hc.y1, ⟨(by decide : (-9223372036854775808 : Int) ≤ 3), (by decide : (3 : Int) ≤ 9223372036854775807)⟩⟩
      have tc3 : c3.tk = 3 := hc3 ▸ rfl
      replace tc3 := hid tc3; replace hc3 := hid hc3
      have HA := hid (step_dead (R := R) hdd c3)
      clear hdd
      go_cut [11] from 41 to 44 (fun v wx => ∃ (b : Nat) (U : World), v = .pointer (some ⟨b, 0, none⟩) ∧ wx = U ∧ PlAt U b d ∧ Below V10.heap.size V10 U ∧ V10.heap.size ≤ b)
      case first =>
        obtain ⟨cO0, cO1, cO2, cO3, cO4⟩ := O.cells
        obtain ⟨cC0, cC1, cC2, cC3, cC4⟩ := C.cells
        go_wp2_with (refine wpList_ldP (by rfl) _ rfl _ _ rfl (by assumption) ?_)
        refine (walkStep W D H mp mn mc mf sp sn sc R HRR.out d HRD.out c3 wc3 d HA.out _ (HM.out _ HB)).mono ?_; rintro e VV ⟨rfl, bq⟩
        clear cO0 cO1 cO2 cO3 cO4 cC0 cC1 cC2 cC3 cC4 O P C A B L 
        have hz : PlAt (VV.alloc (.cells #[.int .i64 0, .int .i64 0, .int .i64 0, .int .i64 0, .int .i64 0, .int .i64 0, .int .i64 0, .bool false, .int .i64 0, .int .i64 0, .int .i64 0, .int .i64 0, .int .i64 0, .int .i64 0, .int .i64 0] 30)) VV.heap.size noPl := PlAt.new VV noPl
        go_wp2_with (refine wpList_stP (by rfl) _ _ rfl _ _ (d) rfl rfl (by assumption) (fun V9 hN hF => ?_))
        go_meet
        exact ⟨_, _, rfl, rfl, hN, below_fr (bq.alloc bq.size _) hF (Nat.le_refl _) (by intro k hk; replace hk : k = _ := hk; rw [hk]; exact bq.size), bq.size⟩
      case rest =>
      obtain ⟨eb, V11, rfl, eU, E, G, heb⟩ := hcut
      replace eU := eU.symm
      subst eU
      have lO := O.lt
      have lP := P.lt
      have lC := C.lt
      have lA := A.lt
      have lB := B.lt
      have lL := L.lt
      replace O := O.keep G; replace P := P.keep G; replace C := C.keep G; replace A := A.keep G; replace B := B.keep G; replace L := L.keep G; replace HB := btrans HB G
      clear G
      clear HA wc3 tc3 hc3
      go_upto_region 12 with fail
      obtain ⟨cP0, cP1, cP2, cP3, cP4, cP5, cP6, cP7, cP8, cP9, cP10, cP11, cP12, cP13, cP14⟩ := P.cells
      obtain ⟨tP0, tP1, tP2, tP3, tP4, tP5, tP6, tP7, tP8, tP9, tP10, tP11, tP12, tP13, tP14⟩ := P.thaw
      go_upto_region 13 with fail
      clear cP0 cP1 cP2 cP3 cP4 cP5 cP6 cP7 cP8 cP9 cP10 cP11 cP12 cP13 cP14 tP0 tP1 tP2 tP3 tP4 tP5 tP6 tP7 tP8 tP9 tP10 tP11 tP12 tP13 tP14
      replace O := O.fr (fr1 _ (mb + 1) 14 (.int .i64 0)) (show ¬ (mb = mb + 1) by omega)
      replace P := P.s14 0
      replace C := C.fr (fr1 _ (mb + 1) 14 (.int .i64 0)) (show ¬ (mb + 1 + 1 = mb + 1) by omega)
      replace A := A.fr (fr1 _ (mb + 1) 14 (.int .i64 0)) (show ¬ (ab = mb + 1) by omega)
      replace B := B.fr (fr1 _ (mb + 1) 14 (.int .i64 0)) (show ¬ (bb = mb + 1) by omega)
      replace L := L.fr (fr1 _ (mb + 1) 14 (.int .i64 0)) (show ¬ (db = mb + 1) by omega)
      replace E := E.fr (fr1 _ (mb + 1) 14 (.int .i64 0)) (show ¬ (eb = mb + 1) by omega)
      replace HB := below_fr HB (fr1 _ (mb + 1) 14 (.int .i64 0)) (Nat.le_refl _) (by intro k hk; replace hk : k = mb + 1 := hk; omega)
      generalize V11.setCell ⟨mb + 1, 14, none⟩ (.int .i64 0) = V12 at *
      obtain ⟨r, hr⟩ : ∃ d : Pl, ({ p with de := 0 } : Pl) = d := ⟨_, rfl⟩
      have HRR0 := hid (hr ▸ ⟨⟨HRT.out.w.x, HRT.out.w.y, HRT.out.w.z, HRT.out.w.a, HRT.out.w.b, HRT.out.w.c⟩, HRT.out.f, ⟨HRT.out.s.a0, HRT.out.s.a1, HRT.out.s.b0, HRT.out.s.b1, HRT.out.s.c0, HRT.out.s.c1⟩⟩ : Rt R r)
      have er : r.de = 0 := hr ▸ rfl
      have E1 : p.px = r.px := hr ▸ rfl
      have E2 : p.py = r.py := hr ▸ rfl
      have E3 : p.pz = r.pz := hr ▸ rfl
      have E4 : p.vx = r.vx := hr ▸ rfl
      have E5 : p.vy = r.vy := hr ▸ rfl
      have E6 : p.vz = r.vz := hr ▸ rfl
      rw [hr] at P
      obtain ⟨q, hq⟩ : ∃ q, tick R r ⟨0, 0, 0, 0, 0⟩ = q := ⟨_, rfl⟩
      obtain ⟨s1, s2⟩ := tick_slower HRR.out HRR0.out er
      rw [hq] at s1 s2
      replace hq := hid hq
      replace E1 := hid E1; replace E2 := hid E2; replace E3 := hid E3; replace E4 := hid E4; replace E5 := hid E5; replace E6 := hid E6; replace s1 := hid s1; replace s2 := hid s2
      clear hr er
      go_cut [12] from 46 to 49 (fun v wx => ∃ (b : Nat) (U : World), v = .pointer (some ⟨b, 0, none⟩) ∧ wx = U ∧ PlAt U b q ∧ Below V12.heap.size V12 U ∧ V12.heap.size ≤ b)
      case first =>
        obtain ⟨cO0, cO1, cO2, cO3, cO4⟩ := O.cells
        go_wp2_with (refine wpList_ldP (by rfl) _ rfl _ _ rfl (by assumption) ?_)
        refine (walkTick W D H mp mn mc mf sp sn sc R HRR.out r HRR0.out.w HRR0.out.s ⟨0, 0, 0, 0, 0⟩ noCm_wf q hq.out _ (HM.out _ HB)).mono ?_; rintro e VV ⟨rfl, bq⟩
        clear cO0 cO1 cO2 cO3 cO4 O P C A B L E 
        have hz : PlAt (VV.alloc (.cells #[.int .i64 0, .int .i64 0, .int .i64 0, .int .i64 0, .int .i64 0, .int .i64 0, .int .i64 0, .bool false, .int .i64 0, .int .i64 0, .int .i64 0, .int .i64 0, .int .i64 0, .int .i64 0, .int .i64 0] 30)) VV.heap.size noPl := PlAt.new VV noPl
        go_wp2_with (refine wpList_stP (by rfl) _ _ rfl _ _ (q) rfl rfl (by assumption) (fun V9 hN hF => ?_))
        go_meet
        exact ⟨_, _, rfl, rfl, hN, below_fr (bq.alloc bq.size _) hF (Nat.le_refl _) (by intro k hk; replace hk : k = _ := hk; rw [hk]; exact bq.size), bq.size⟩
      case rest =>
      obtain ⟨qb, V13, rfl, eU, Q, G, hqb⟩ := hcut
      replace eU := eU.symm
      subst eU
      have lO := O.lt
      have lP := P.lt
      have lC := C.lt
      have lA := A.lt
      have lB := B.lt
      have lL := L.lt
      have lE := E.lt
      replace O := O.keep G; replace P := P.keep G; replace C := C.keep G; replace A := A.keep G; replace B := B.keep G; replace L := L.keep G; replace E := E.keep G; replace HB := btrans HB G
      clear G
      go_upto_region 14 with fail
      obtain ⟨cA0, cA1, cA2, cA3, cA4, cA5, cA6, cA7, cA8, cA9, cA10, cA11, cA12, cA13, cA14⟩ := A.cells
      obtain ⟨cB0, cB1, cB2, cB3, cB4, cB5, cB6, cB7, cB8, cB9, cB10, cB11, cB12, cB13, cB14⟩ := B.cells
      obtain ⟨cP0, cP1, cP2, cP3, cP4, cP5, cP6, cP7, cP8, cP9, cP10, cP11, cP12, cP13, cP14⟩ := P.cells
      obtain ⟨cQ0, cQ1, cQ2, cQ3, cQ4, cQ5, cQ6, cQ7, cQ8, cQ9, cQ10, cQ11, cQ12, cQ13, cQ14⟩ := Q.cells
      rw [E1.out] at cA1 cB1; rw [E2.out] at cA2 cB2; rw [E3.out] at cA3 cB3; rw [E4.out] at cA4; rw [E5.out] at cA5; rw [E6.out] at cA6
      clear O P C A B Q HRT HRD HRR0 HM HRR E1 E2 E3 E4 E5 E6 hpw hpf hc hq
      go_wp2_with (first | (refine wpList_ldP (by rfl) _ rfl _ _ rfl (by assumption) ?_) | (refine wpList_eqP (by rfl) _ _ _ rfl _ rfl rfl ?_))
      refine (lawSlower _ _ _).mono ?_; rintro e V18 ⟨rfl, hv⟩
      replace hv := hv.symm; subst hv
      rw [s1.out]
      go_wp2_with fail
      refine (lawSlower _ _ _).mono ?_; rintro e V18 ⟨rfl, hv⟩
      replace hv := hv.symm; subst hv
      rw [s2.out]
      go_wp2
      go_ret
      exact ⟨rfl, HB⟩
end Go.Proofs.Ytjjdclckkhddbaa
