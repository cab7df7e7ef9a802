/- Layer 11 (walk): the walk of the law WalkHigher. -/
import Derived.Test.YtjjdclckkhddbaaWlB
namespace Go.Proofs.Ytjjdclckkhddbaa
open Go.RowKit
set_option linter.unusedVariables false
set_option linter.unusedSimpArgs false
attribute [local go_sem ↓] Go.wp_at_zero Go.wp_at_succ

set_option maxRecDepth 100000 in
set_option maxHeartbeats 4000000 in
theorem walkHigher_walk (W D H : Int) (mp : Option Addr) (mn mc : Nat) (mf : Nat → Bool) (sp : Option Addr) (sn sc : Nat) (X Y Z : Nat → Int) (p : Pl) (c : Cm) (w : World) (hW : I64 W) (hD : I64 D) (hH : I64 H) (hm : Arg w mp mn mc fun i => .bool (mf i)) (hv : ArgW w sp sn sc X Y Z) (hX : ∀ i, I64 (X i) ∧ I64 (Y i) ∧ I64 (Z i)) (hpw : p.Wf) (hpf : p.Full) (hc : c.Wf) :
    Calls Try.prog 8 #[.agg #[.int .i64 W, .int .i64 D, .int .i64 H, .slice mp mn mc, .slice sp sn sc], .agg #[.int .i64 p.id, .int .i64 p.px, .int .i64 p.py, .int .i64 p.pz, .int .i64 p.vx, .int .i64 p.vy, .int .i64 p.vz, .bool p.gr, .int .i64 p.he, .int .i64 p.ar, .int .i64 p.sc, .int .i64 p.a0, .int .i64 p.a1, .int .i64 p.wa, .int .i64 p.de], .agg #[.int .u16 c.sq, .int .u8 c.bt, .int .i8 c.dx, .int .i8 c.dy, .int .i64 c.tk]] w fun e w' => e = .returned (.bool true) ∧ Below w.heap.size w w' := by
  obtain ⟨R, hR⟩ := (mpOf W D H mn mf).roomOf
  obtain ⟨sr, hsr⟩ := boolOf ((mpOf W D H mn mf).RightP sn X Y Z)
  obtain ⟨sm, hsm⟩ : ∃ s, (decide (W ≤ 10) && decide (D ≤ 10) && decide (H ≤ 10) && sr) = s := ⟨_, rfl⟩
  have HSM := hid (fun V (hV : Below w.heap.size w V) => lawSmall11 W D H mp mn mc mf sp sn sc X Y Z hX sr hsr V (hm.keep hV) (hv.keep hV))
  rw [hsm] at HSM
  obtain ⟨f, hf⟩ : ∃ f, rtB R p = f := ⟨_, rfl⟩
  have HRI := hid (fun V (hV : Below w.heap.size w V) => walkRight W D H mp mn mc mf sp sn sc R hR p hpw f hf V (hm.keep hV))
  have HF := hid hf
  have HM := hid (fun V (hV : Below w.heap.size w V) => hm.keep hV)
  clear hsm hsr hf
  have HRR := hid hR
  clear hW hD hH hX hv hm hR
  have O : O5 (((w.alloc (.cells #[.int .i64 W, .int .i64 D, .int .i64 H, .slice mp mn mc, .slice sp sn sc] 25)).alloc (.cells #[.int .i64 p.id, .int .i64 p.px, .int .i64 p.py, .int .i64 p.pz, .int .i64 p.vx, .int .i64 p.vy, .int .i64 p.vz, .bool p.gr, .int .i64 p.he, .int .i64 p.ar, .int .i64 p.sc, .int .i64 p.a0, .int .i64 p.a1, .int .i64 p.wa, .int .i64 p.de] 30)).alloc (.cells #[.int .u16 c.sq, .int .u8 c.bt, .int .i8 c.dx, .int .i8 c.dy, .int .i64 c.tk] 34)) (w.heap.size) (.int .i64 W) (.int .i64 D) (.int .i64 H) (.slice mp mn mc) (.slice sp sn sc) := ((O5.new _ _ _ _ _ _).alloc _).alloc _
  have P : PlAt (((w.alloc (.cells #[.int .i64 W, .int .i64 D, .int .i64 H, .slice mp mn mc, .slice sp sn sc] 25)).alloc (.cells #[.int .i64 p.id, .int .i64 p.px, .int .i64 p.py, .int .i64 p.pz, .int .i64 p.vx, .int .i64 p.vy, .int .i64 p.vz, .bool p.gr, .int .i64 p.he, .int .i64 p.ar, .int .i64 p.sc, .int .i64 p.a0, .int .i64 p.a1, .int .i64 p.wa, .int .i64 p.de] 30)).alloc (.cells #[.int .u16 c.sq, .int .u8 c.bt, .int .i8 c.dx, .int .i8 c.dy, .int .i64 c.tk] 34)) (w.heap.size + 1) p := (PlAt.new' _ _ (by simp)).alloc _
  have C : CmAt (((w.alloc (.cells #[.int .i64 W, .int .i64 D, .int .i64 H, .slice mp mn mc, .slice sp sn sc] 25)).alloc (.cells #[.int .i64 p.id, .int .i64 p.px, .int .i64 p.py, .int .i64 p.pz, .int .i64 p.vx, .int .i64 p.vy, .int .i64 p.vz, .bool p.gr, .int .i64 p.he, .int .i64 p.ar, .int .i64 p.sc, .int .i64 p.a0, .int .i64 p.a1, .int .i64 p.wa, .int .i64 p.de] 30)).alloc (.cells #[.int .u16 c.sq, .int .u8 c.bt, .int .i8 c.dx, .int .i8 c.dy, .int .i64 c.tk] 34)) (w.heap.size + 1 + 1) c := CmAt.new' _ _ (by simp)
  have HB : Below w.heap.size w (((w.alloc (.cells #[.int .i64 W, .int .i64 D, .int .i64 H, .slice mp mn mc, .slice sp sn sc] 25)).alloc (.cells #[.int .i64 p.id, .int .i64 p.px, .int .i64 p.py, .int .i64 p.pz, .int .i64 p.vx, .int .i64 p.vy, .int .i64 p.vz, .bool p.gr, .int .i64 p.he, .int .i64 p.ar, .int .i64 p.sc, .int .i64 p.a0, .int .i64 p.a1, .int .i64 p.wa, .int .i64 p.de] 30)).alloc (.cells #[.int .u16 c.sq, .int .u8 c.bt, .int .i8 c.dx, .int .i8 c.dy, .int .i64 c.tk] 34)) := (((Below.refl _ _).alloc (Nat.le_refl _) _).alloc (by simp) _).alloc (by simp; omega) _
  go_enter Try.func8, Try.ntmps8
  go_upto_region 1 with fail
  obtain ⟨mb, hmb⟩ : ∃ b, w.heap.size = b := ⟨_, rfl⟩
  have hwm : w.heap.size ≤ mb := by omega
  rw [hmb] at O P C
  try simp only [hmb]
  generalize (((w.alloc (.cells #[.int .i64 W, .int .i64 D, .int .i64 H, .slice mp mn mc, .slice sp sn sc] 25)).alloc (.cells #[.int .i64 p.id, .int .i64 p.px, .int .i64 p.py, .int .i64 p.pz, .int .i64 p.vx, .int .i64 p.vy, .int .i64 p.vz, .bool p.gr, .int .i64 p.he, .int .i64 p.ar, .int .i64 p.sc, .int .i64 p.a0, .int .i64 p.a1, .int .i64 p.wa, .int .i64 p.de] 30)).alloc (.cells #[.int .u16 c.sq, .int .u8 c.bt, .int .i8 c.dx, .int .i8 c.dy, .int .i64 c.tk] 34)) = V0 at *
  clear hmb
  go_wp2_with fail
  refine (lawShown11 _).mono ?_; rintro e V1 ⟨rfl, bq⟩
  replace O := O.keep bq; replace P := P.keep bq; replace C := C.keep bq; replace HB := btrans HB bq
  clear bq
  obtain ⟨cO0, cO1, cO2, cO3, cO4⟩ := O.cells
  go_wp2_with fail
  refine (HSM.out _ HB).mono ?_; rintro e V2 ⟨rfl, bq⟩
  clear cO0 cO1 cO2 cO3 cO4
  replace O := O.keep bq; replace P := P.keep bq; replace C := C.keep bq; replace HB := btrans HB bq
  clear bq
  clear HSM
  cases sm with
  | false =>
    clear O P HM HF HRI
    go_wp2
    go_ret
    exact ⟨rfl, HB⟩
  | true =>
    obtain ⟨cO0, cO1, cO2, cO3, cO4⟩ := O.cells
    go_wp2_with (refine wpList_ldP (by rfl) _ rfl _ _ rfl (by assumption) ?_)
    refine (HRI.out _ HB).mono ?_; rintro e V3 ⟨rfl, bq⟩
    clear cO0 cO1 cO2 cO3 cO4
    replace O := O.keep bq; replace P := P.keep bq; replace C := C.keep bq; replace HB := btrans HB bq
    clear bq
    clear HRI
    cases f with
    | false =>
      clear O P HM HF
      go_wp2
      go_ret
      exact ⟨rfl, HB⟩
    | true =>
      have HRT := hid ((rtB_iff hpw).1 HF.out)
      clear HF
      obtain ⟨cP0, cP1, cP2, cP3, cP4, cP5, cP6, cP7, cP8, cP9, cP10, cP11, cP12, cP13, cP14⟩ := P.cells
      obtain ⟨tP0, tP1, tP2, tP3, tP4, tP5, tP6, tP7, tP8, tP9, tP10, tP11, tP12, tP13, tP14⟩ := P.thaw
      go_upto_region 5 with fail
      clear cP0 cP1 cP2 cP3 cP4 cP5 cP6 cP7 cP8 cP9 cP10 cP11 cP12 cP13 cP14 tP0 tP1 tP2 tP3 tP4 tP5 tP6 tP7 tP8 tP9 tP10 tP11 tP12 tP13 tP14
      replace O := O.fr (fr1 _ (mb + 1) 14 (.int .i64 0)) (show ¬ (mb = mb + 1) by omega)
      replace P := P.s14 0
      replace C := C.fr (fr1 _ (mb + 1) 14 (.int .i64 0)) (show ¬ (mb + 1 + 1 = mb + 1) by omega)
      replace HB := below_fr HB (fr1 _ (mb + 1) 14 (.int .i64 0)) (Nat.le_refl _) (by intro k hk; replace hk : k = mb + 1 := hk; omega)
      generalize V3.setCell ⟨mb + 1, 14, none⟩ (.int .i64 0) = V4 at *
      obtain ⟨r, hr⟩ : ∃ d : Pl, ({ p with de := 0 } : Pl) = d := ⟨_, rfl⟩
      rw [hr] at P
      have HRR0 := hid (hr ▸ ⟨⟨HRT.out.w.x, HRT.out.w.y, HRT.out.w.z, HRT.out.w.a, HRT.out.w.b, HRT.out.w.c⟩, HRT.out.f, ⟨HRT.out.s.a0, HRT.out.s.a1, HRT.out.s.b0, HRT.out.s.b1, HRT.out.s.c0, HRT.out.s.c1⟩⟩ : Rt R r)
      have er : r.de = 0 := hr ▸ rfl
      clear hr HRT
      obtain ⟨nb, hnb⟩ := Int.eq_ofNat_of_zero_le hc.b0
      have nb2 : nb < 256 := by have := hc.b1; omega
      have ew : bits .or .u8 c.bt 1 = ((nb ||| 1 : Nat) : Int) := by rw [hnb]; exact or_u8 nb2
      have ex : bits .andNot .u8 c.bt 1 = ((nb &&& 254 : Nat) : Int) := by rw [hnb]; exact andNot_u8 nb2
      obtain ⟨a1, a2, a3, a4⟩ := prs_all ⟨nb, nb2⟩
      dsimp only at a1 a2 a3 a4
      rw [a4.symm] at a3
      clear a4
      have lo : (nb ||| 1) < 256 := Nat.or_lt_two_pow (n := 8) nb2 (by decide)
      have la : (nb &&& 254) < 256 := Nat.lt_of_le_of_lt Nat.and_le_left nb2
      obtain ⟨bw, hbw⟩ : ∃ b : Int, ((nb ||| 1 : Nat) : Int) = b := ⟨_, rfl⟩
      obtain ⟨bx, hbx⟩ : ∃ b : Int, ((nb &&& 254 : Nat) : Int) = b := ⟨_, rfl⟩
      rw [hbw] at ew a1 a3
      rw [hbx] at ex a2 a3
      have hw0 : 0 ≤ bw := by omega
      have hw1 : bw < 256 := by omega
      have hx0 : 0 ≤ bx := by omega
      have hx1 : bx < 256 := by omega
      clear hbw hbx lo la hnb nb2
      replace a1 := hid a1; replace a2 := hid a2; replace a3 := hid a3
      obtain ⟨cC0, cC1, cC2, cC3, cC4⟩ := C.cells
      go_upto_region 6 with fail
      clear cC0 cC1 cC2 cC3 cC4
      have lO := O.lt
      have lP := P.lt
      have lC := C.lt
      replace O := O.alloc (.cells #[.int .u16 c.sq, .int .u8 c.bt, .int .i8 c.dx, .int .i8 c.dy, .int .i64 c.tk] 34)
      replace P := P.alloc (.cells #[.int .u16 c.sq, .int .u8 c.bt, .int .i8 c.dx, .int .i8 c.dy, .int .i64 c.tk] 34)
      replace C := C.alloc (.cells #[.int .u16 c.sq, .int .u8 c.bt, .int .i8 c.dx, .int .i8 c.dy, .int .i64 c.tk] 34)
      replace HB := HB.alloc HB.size (.cells #[.int .u16 c.sq, .int .u8 c.bt, .int .i8 c.dx, .int .i8 c.dy, .int .i64 c.tk] 34)
      have A := CmAt.new V4 c
      obtain ⟨ab, hab⟩ : ∃ b, V4.heap.size = b := ⟨_, rfl⟩
      rw [hab] at A lO lP lC
      try simp only [hab]
      generalize V4.alloc (.cells #[.int .u16 c.sq, .int .u8 c.bt, .int .i8 c.dx, .int .i8 c.dy, .int .i64 c.tk] 34) = V5 at *
      clear hab
      obtain ⟨cC0, cC1, cC2, cC3, cC4⟩ := C.cells
      obtain ⟨cA0, cA1, cA2, cA3, cA4⟩ := A.cells
      obtain ⟨tA0, tA1, tA2, tA3, tA4⟩ := A.thaw
      go_upto_region 7 with fail
      clear cC0 cC1 cC2 cC3 cC4 cA0 cA1 cA2 cA3 cA4 tA0 tA1 tA2 tA3 tA4
      replace O := O.fr (fr1 _ ab 1 (.int .u8 bw)) (show ¬ (mb = ab) by omega)
      replace P := P.fr (fr1 _ ab 1 (.int .u8 bw)) (show ¬ (mb + 1 = ab) by omega)
      replace C := C.fr (fr1 _ ab 1 (.int .u8 bw)) (show ¬ (mb + 1 + 1 = ab) by omega)
      replace A := A.s1 bw
      replace HB := below_fr HB (fr1 _ ab 1 (.int .u8 bw)) (Nat.le_refl _) (by intro k hk; replace hk : k = ab := hk; omega)
      generalize V5.setCell ⟨ab, 1, none⟩ (.int .u8 bw) = V6 at *
      obtain ⟨cw, hcw⟩ : ∃ d : Cm, ({ c with bt := bw } : Cm) = d := ⟨_, rfl⟩
      rw [hcw] at A
      obtain ⟨cC0, cC1, cC2, cC3, cC4⟩ := C.cells
      go_upto_region 8 with fail
      clear cC0 cC1 cC2 cC3 cC4
      have lO := O.lt
      have lP := P.lt
      have lC := C.lt
      have lA := A.lt
      replace O := O.alloc (.cells #[.int .u16 c.sq, .int .u8 c.bt, .int .i8 c.dx, .int .i8 c.dy, .int .i64 c.tk] 34)
      replace P := P.alloc (.cells #[.int .u16 c.sq, .int .u8 c.bt, .int .i8 c.dx, .int .i8 c.dy, .int .i64 c.tk] 34)
      replace C := C.alloc (.cells #[.int .u16 c.sq, .int .u8 c.bt, .int .i8 c.dx, .int .i8 c.dy, .int .i64 c.tk] 34)
      replace A := A.alloc (.cells #[.int .u16 c.sq, .int .u8 c.bt, .int .i8 c.dx, .int .i8 c.dy, .int .i64 c.tk] 34)
      replace HB := HB.alloc HB.size (.cells #[.int .u16 c.sq, .int .u8 c.bt, .int .i8 c.dx, .int .i8 c.dy, .int .i64 c.tk] 34)
      have B := CmAt.new V6 c
      obtain ⟨bb, hbb⟩ : ∃ b, V6.heap.size = b := ⟨_, rfl⟩
      rw [hbb] at B lO lP lC lA
      try simp only [hbb]
      generalize V6.alloc (.cells #[.int .u16 c.sq, .int .u8 c.bt, .int .i8 c.dx, .int .i8 c.dy, .int .i64 c.tk] 34) = V7 at *
      clear hbb
      obtain ⟨cC0, cC1, cC2, cC3, cC4⟩ := C.cells
      obtain ⟨cB0, cB1, cB2, cB3, cB4⟩ := B.cells
      obtain ⟨tB0, tB1, tB2, tB3, tB4⟩ := B.thaw
      go_upto_region 9 with fail
      clear cC0 cC1 cC2 cC3 cC4 cB0 cB1 cB2 cB3 cB4 tB0 tB1 tB2 tB3 tB4
      replace O := O.fr (fr1 _ bb 1 (.int .u8 bx)) (show ¬ (mb = bb) by omega)
      replace P := P.fr (fr1 _ bb 1 (.int .u8 bx)) (show ¬ (mb + 1 = bb) by omega)
      replace C := C.fr (fr1 _ bb 1 (.int .u8 bx)) (show ¬ (mb + 1 + 1 = bb) by omega)
      replace A := A.fr (fr1 _ bb 1 (.int .u8 bx)) (show ¬ (ab = bb) by omega)
      replace B := B.s1 bx
      replace HB := below_fr HB (fr1 _ bb 1 (.int .u8 bx)) (Nat.le_refl _) (by intro k hk; replace hk : k = bb := hk; omega)
      generalize V7.setCell ⟨bb, 1, none⟩ (.int .u8 bx) = V8 at *
      obtain ⟨cx, hcx⟩ : ∃ d : Cm, ({ c with bt := bx } : Cm) = d := ⟨_, rfl⟩
      rw [hcx] at B
      have wcw : cw.Wf := hcw ▸ ⟨hw0, hw1, hc.x0, hc.x1, hc.y0, hc.y1, hc.t⟩
      have wcx : cx.Wf := hcx ▸ ⟨hx0, hx1, hc.x0, hc.x1, hc.y0, hc.y1, hc.t⟩
      have ed : cx.dx = cw.dx := hcx ▸ hcw ▸ rfl
      have ee : cx.dy = cw.dy := hcx ▸ hcw ▸ rfl
      have g1 : prs cw.bt 1 = true := hcw ▸ a1.out
      have g2 : prs cx.bt 1 = false := hcx ▸ a2.out
      have g3 : prs cw.bt 2 = prs cx.bt 2 := hcw ▸ hcx ▸ a3.out
      obtain ⟨u, hu⟩ : ∃ q, tick R r cw = q := ⟨_, rfl⟩
      obtain ⟨s, hv⟩ : ∃ q, tick R r cx = q := ⟨_, rfl⟩
      have air : r.gr = false → s = u := fun hg => by rw [← hu, ← hv]; exact tick_air hg ed ee
      have jmp := fun hg => tick_jump HRR.out HRR0.out er (c := cw) (d := cx) hg g1 g2 g3 ed ee
      rw [hu, hv] at jmp
      replace hu := hid hu; replace hv := hid hv; replace air := hid air; replace jmp := hid jmp
      clear ed ee g1 g2 g3 a1 a2 a3 hw0 hw1 hx0 hx1 ew ex er hcw hcx
      go_cut [10] from 34 to 37 (fun v wx => ∃ (b : Nat) (U : World), v = .pointer (some ⟨b, 0, none⟩) ∧ wx = U ∧ PlAt U b u ∧ Below V8.heap.size V8 U ∧ V8.heap.size ≤ b)
      case first =>
        obtain ⟨cO0, cO1, cO2, cO3, cO4⟩ := O.cells
        obtain ⟨cA0, cA1, cA2, cA3, cA4⟩ := A.cells
        go_wp2_with (refine wpList_ldP (by rfl) _ rfl _ _ rfl (by assumption) ?_)
        refine (walkTick W D H mp mn mc mf sp sn sc R HRR.out r HRR0.out.w HRR0.out.s cw wcw u hu.out _ (HM.out _ HB)).mono ?_; rintro e VV ⟨rfl, bq⟩
        clear cO0 cO1 cO2 cO3 cO4 cA0 cA1 cA2 cA3 cA4 O P C A B 
        have hz : PlAt (VV.alloc (.cells #[.int .i64 0, .int .i64 0, .int .i64 0, .int .i64 0, .int .i64 0, .int .i64 0, .int .i64 0, .bool false, .int .i64 0, .int .i64 0, .int .i64 0, .int .i64 0, .int .i64 0, .int .i64 0, .int .i64 0] 30)) VV.heap.size noPl := PlAt.new VV noPl
        go_wp2_with (refine wpList_stP (by rfl) _ _ rfl _ _ (u) rfl rfl (by assumption) (fun V9 hN hF => ?_))
        go_meet
        exact ⟨_, _, rfl, rfl, hN, below_fr (bq.alloc bq.size _) hF (Nat.le_refl _) (by intro k hk; replace hk : k = _ := hk; rw [hk]; exact bq.size), bq.size⟩
      case rest =>
      obtain ⟨ub, V9, rfl, eU, U, G, hub⟩ := hcut
      replace eU := eU.symm
      subst eU
      have lO := O.lt
      have lP := P.lt
      have lC := C.lt
      have lA := A.lt
      have lB := B.lt
      replace O := O.keep G; replace P := P.keep G; replace C := C.keep G; replace A := A.keep G; replace B := B.keep G; replace HB := btrans HB G
      clear G
      go_upto_region 10 with fail
      go_cut [11] from 38 to 41 (fun v wx => ∃ (b : Nat) (U : World), v = .pointer (some ⟨b, 0, none⟩) ∧ wx = U ∧ PlAt U b s ∧ Below V9.heap.size V9 U ∧ V9.heap.size ≤ b)
      case first =>
        obtain ⟨cO0, cO1, cO2, cO3, cO4⟩ := O.cells
        obtain ⟨cB0, cB1, cB2, cB3, cB4⟩ := B.cells
        go_wp2_with (refine wpList_ldP (by rfl) _ rfl _ _ rfl (by assumption) ?_)
        refine (walkTick W D H mp mn mc mf sp sn sc R HRR.out r HRR0.out.w HRR0.out.s cx wcx s hv.out _ (HM.out _ HB)).mono ?_; rintro e VV ⟨rfl, bq⟩
        clear cO0 cO1 cO2 cO3 cO4 cB0 cB1 cB2 cB3 cB4 O P C A B U 
        have hz : PlAt (VV.alloc (.cells #[.int .i64 0, .int .i64 0, .int .i64 0, .int .i64 0, .int .i64 0, .int .i64 0, .int .i64 0, .bool false, .int .i64 0, .int .i64 0, .int .i64 0, .int .i64 0, .int .i64 0, .int .i64 0, .int .i64 0] 30)) VV.heap.size noPl := PlAt.new VV noPl
        go_wp2_with (refine wpList_stP (by rfl) _ _ rfl _ _ (s) rfl rfl (by assumption) (fun V9 hN hF => ?_))
        go_meet
        exact ⟨_, _, rfl, rfl, hN, below_fr (bq.alloc bq.size _) hF (Nat.le_refl _) (by intro k hk; replace hk : k = _ := hk; rw [hk]; exact bq.size), bq.size⟩
      case rest =>
      obtain ⟨vb, V10, rfl, eU, T, G, hvb⟩ := hcut
      replace eU := eU.symm
      subst eU
      have lO := O.lt
      have lP := P.lt
      have lC := C.lt
      have lA := A.lt
      have lB := B.lt
      have lU := U.lt
      replace O := O.keep G; replace P := P.keep G; replace C := C.keep G; replace A := A.keep G; replace B := B.keep G; replace U := U.keep G; replace HB := btrans HB G
      clear G
      go_upto_region 11 with fail
      obtain ⟨g, hg⟩ : ∃ g, r.gr = g := ⟨_, rfl⟩
      obtain ⟨hi, ⟨i1, i2⟩, ⟨i3, i4⟩, ⟨i5, i6⟩⟩ := ((HRR.out _ _ _).1 HRR0.out.f).inside HRR0.out.w.x HRR0.out.w.y HRR0.out.w.z
      obtain ⟨w1, w2, w3, w4, w5, w6, w7⟩ := hi
      dsimp only [mpOf] at i6 w6
      have e1 : IntKind.i64.wrap (r.pz + 24576) = r.pz + 24576 := wrapI (by omega) (by omega)
      have e2 : IntKind.i64.wrap (r.pz + 24576 - 1024) = r.pz + 24576 - 1024 := wrapI (by omega) (by omega)
      clear i1 i2 i3 i4 i5 i6 w1 w2 w3 w4 w5 w6 w7 HRR0 HRR
      cases g with
      | false =>
        obtain rfl := air.out hg
        clear jmp air hu hv e1 e2
        obtain ⟨cP0, cP1, cP2, cP3, cP4, cP5, cP6, cP7, cP8, cP9, cP10, cP11, cP12, cP13, cP14⟩ := P.cells
        rw [hg] at cP7
        go_wp2_with (first | (refine wpList_ldP (by rfl) _ rfl _ _ rfl (by assumption) ?_) | (refine wpList_eqP (by rfl) _ _ _ rfl _ rfl rfl ?_))
        go_ret
        exact ⟨rfl, HB⟩
      | true =>
        obtain ⟨j1, j2, j3, j4⟩ := jmp.out hg
        clear air jmp hu hv
        obtain ⟨cP0, cP1, cP2, cP3, cP4, cP5, cP6, cP7, cP8, cP9, cP10, cP11, cP12, cP13, cP14⟩ := P.cells
        obtain ⟨cU0, cU1, cU2, cU3, cU4, cU5, cU6, cU7, cU8, cU9, cU10, cU11, cU12, cU13, cU14⟩ := U.cells
        obtain ⟨cT0, cT1, cT2, cT3, cT4, cT5, cT6, cT7, cT8, cT9, cT10, cT11, cT12, cT13, cT14⟩ := T.cells
        rw [hg] at cP7
        rw [j2] at cU7
        rw [j3] at cU1
        rw [j4] at cU2
        skip
        clear O C A B P U T
        rcases j1 with ⟨z1, z2⟩ | ⟨z1, z2⟩
        · rw [z1] at cU6
          rw [z2] at cU3
          clear z1 z2 j2 j3 j4
          go_wp2
          go_ret
          exact ⟨rfl, HB⟩
        · rw [z1] at cU6
          rw [z2] at cU3
          clear z1 z2 j2 j3 j4
          go_wp2
          go_ret
          exact ⟨rfl, HB⟩
end Go.Proofs.Ytjjdclckkhddbaa
