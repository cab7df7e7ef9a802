/- Layer 11 (walk): the walk of the law WalkJoins. -/
import Derived.Test.YtjjdclckkhddbaaWlA
namespace Go.Proofs.Ytjjdclckkhddbaa
open Go.RowKit
set_option linter.unusedVariables false
set_option linter.unusedSimpArgs false
attribute [local go_sem ↓] Go.wp_at_zero Go.wp_at_succ

set_option maxRecDepth 100000 in
set_option maxHeartbeats 4000000 in
theorem walkJoins_walk (W D H : Int) (mp : Option Addr) (mn mc : Nat) (mf : Nat → Bool) (sp : Option Addr) (sn sc : Nat) (X Y Z : Nat → Int) (p : Pl) (c : Cm) (a : Int) (b : Int) (w : World) (hW : I64 W) (hD : I64 D) (hH : I64 H) (hm : Arg w mp mn mc fun i => .bool (mf i)) (hv : ArgW w sp sn sc X Y Z) (hX : ∀ i, I64 (X i) ∧ I64 (Y i) ∧ I64 (Z i)) (hpw : p.Wf) (hpf : p.Full) (hc : c.Wf) (ha : I64 a) (hb : I64 b) :
    Calls Try.prog 5 #[.agg #[.int .i64 W, .int .i64 D, .int .i64 H, .slice mp mn mc, .slice sp sn sc], .agg #[.int .i64 p.id, .int .i64 p.px, .int .i64 p.py, .int .i64 p.pz, .int .i64 p.vx, .int .i64 p.vy, .int .i64 p.vz, .bool p.gr, .int .i64 p.he, .int .i64 p.ar, .int .i64 p.sc, .int .i64 p.a0, .int .i64 p.a1, .int .i64 p.wa, .int .i64 p.de], .agg #[.int .u16 c.sq, .int .u8 c.bt, .int .i8 c.dx, .int .i8 c.dy, .int .i64 c.tk], .int .i64 a, .int .i64 b] w fun e w' => e = .returned (.bool true) ∧ Below w.heap.size w w' := by
  obtain ⟨R, hR⟩ := (mpOf W D H mn mf).roomOf
  obtain ⟨sr, hsr⟩ := boolOf ((mpOf W D H mn mf).RightP sn X Y Z)
  obtain ⟨sm, hsm⟩ : ∃ s, (decide (W ≤ 10) && decide (D ≤ 10) && decide (H ≤ 10) && sr) = s := ⟨_, rfl⟩
  have HSM := hid (fun V (hV : Below w.heap.size w V) => lawSmall11 W D H mp mn mc mf sp sn sc X Y Z hX sr hsr V (hm.keep hV) (hv.keep hV))
  rw [hsm] at HSM
  obtain ⟨f, hf⟩ : ∃ f, rtB R p = f := ⟨_, rfl⟩
  have HRI := hid (fun V (hV : Below w.heap.size w V) => walkRight W D H mp mn mc mf sp sn sc R hR p hpw f hf V (hm.keep hV))
  have HF := hid hf
  have HM := hid (fun V (hV : Below w.heap.size w V) => hm.keep hV)
  clear hsm hsr hf
  have HRR := hid hR
  clear hW hD hH hX hv hm hR
  have O : O5 (((w.alloc (.cells #[.int .i64 W, .int .i64 D, .int .i64 H, .slice mp mn mc, .slice sp sn sc] 25)).alloc (.cells #[.int .i64 p.id, .int .i64 p.px, .int .i64 p.py, .int .i64 p.pz, .int .i64 p.vx, .int .i64 p.vy, .int .i64 p.vz, .bool p.gr, .int .i64 p.he, .int .i64 p.ar, .int .i64 p.sc, .int .i64 p.a0, .int .i64 p.a1, .int .i64 p.wa, .int .i64 p.de] 30)).alloc (.cells #[.int .u16 c.sq, .int .u8 c.bt, .int .i8 c.dx, .int .i8 c.dy, .int .i64 c.tk] 34)) (w.heap.size) (.int .i64 W) (.int .i64 D) (.int .i64 H) (.slice mp mn mc) (.slice sp sn sc) := ((O5.new _ _ _ _ _ _).alloc _).alloc _
  have P : PlAt (((w.alloc (.cells #[.int .i64 W, .int .i64 D, .int .i64 H, .slice mp mn mc, .slice sp sn sc] 25)).alloc (.cells #[.int .i64 p.id, .int .i64 p.px, .int .i64 p.py, .int .i64 p.pz, .int .i64 p.vx, .int .i64 p.vy, .int .i64 p.vz, .bool p.gr, .int .i64 p.he, .int .i64 p.ar, .int .i64 p.sc, .int .i64 p.a0, .int .i64 p.a1, .int .i64 p.wa, .int .i64 p.de] 30)).alloc (.cells #[.int .u16 c.sq, .int .u8 c.bt, .int .i8 c.dx, .int .i8 c.dy, .int .i64 c.tk] 34)) (w.heap.size + 1) p := (PlAt.new' _ _ (by simp)).alloc _
  have C : CmAt (((w.alloc (.cells #[.int .i64 W, .int .i64 D, .int .i64 H, .slice mp mn mc, .slice sp sn sc] 25)).alloc (.cells #[.int .i64 p.id, .int .i64 p.px, .int .i64 p.py, .int .i64 p.pz, .int .i64 p.vx, .int .i64 p.vy, .int .i64 p.vz, .bool p.gr, .int .i64 p.he, .int .i64 p.ar, .int .i64 p.sc, .int .i64 p.a0, .int .i64 p.a1, .int .i64 p.wa, .int .i64 p.de] 30)).alloc (.cells #[.int .u16 c.sq, .int .u8 c.bt, .int .i8 c.dx, .int .i8 c.dy, .int .i64 c.tk] 34)) (w.heap.size + 1 + 1) c := CmAt.new' _ _ (by simp)
  have HB : Below w.heap.size w (((w.alloc (.cells #[.int .i64 W, .int .i64 D, .int .i64 H, .slice mp mn mc, .slice sp sn sc] 25)).alloc (.cells #[.int .i64 p.id, .int .i64 p.px, .int .i64 p.py, .int .i64 p.pz, .int .i64 p.vx, .int .i64 p.vy, .int .i64 p.vz, .bool p.gr, .int .i64 p.he, .int .i64 p.ar, .int .i64 p.sc, .int .i64 p.a0, .int .i64 p.a1, .int .i64 p.wa, .int .i64 p.de] 30)).alloc (.cells #[.int .u16 c.sq, .int .u8 c.bt, .int .i8 c.dx, .int .i8 c.dy, .int .i64 c.tk] 34)) := (((Below.refl _ _).alloc (Nat.le_refl _) _).alloc (by simp) _).alloc (by simp; omega) _
  go_enter Try.func5, Try.ntmps5
  go_upto_region 1 with fail
  obtain ⟨mb, hmb⟩ : ∃ b, w.heap.size = b := ⟨_, rfl⟩
  have hwm : w.heap.size ≤ mb := by omega
  rw [hmb] at O P C
  try simp only [hmb]
  generalize (((w.alloc (.cells #[.int .i64 W, .int .i64 D, .int .i64 H, .slice mp mn mc, .slice sp sn sc] 25)).alloc (.cells #[.int .i64 p.id, .int .i64 p.px, .int .i64 p.py, .int .i64 p.pz, .int .i64 p.vx, .int .i64 p.vy, .int .i64 p.vz, .bool p.gr, .int .i64 p.he, .int .i64 p.ar, .int .i64 p.sc, .int .i64 p.a0, .int .i64 p.a1, .int .i64 p.wa, .int .i64 p.de] 30)).alloc (.cells #[.int .u16 c.sq, .int .u8 c.bt, .int .i8 c.dx, .int .i8 c.dy, .int .i64 c.tk] 34)) = V0 at *
  clear hmb
  obtain ⟨nma, hnma, ema⟩ := mask (m := 3) (x := a) (k := 2) rfl (by omega)
  have ewa : IntKind.i64.wrap (1 + (nma : Int)) = 1 + (nma : Int) := wrapI (by omega) (by omega)
  obtain ⟨za, hza⟩ : ∃ z : Int, 1 + (nma : Int) = z := ⟨_, rfl⟩
  rw [hza] at ewa
  have lza : 1 ≤ za ∧ za ≤ 4 := by omega
  obtain ⟨nmb, hnmb, emb⟩ := mask (m := 3) (x := b) (k := 2) rfl (by omega)
  have ewb : IntKind.i64.wrap (1 + (nmb : Int)) = 1 + (nmb : Int) := wrapI (by omega) (by omega)
  obtain ⟨zb, hzb⟩ : ∃ z : Int, 1 + (nmb : Int) = z := ⟨_, rfl⟩
  rw [hzb] at ewb
  have lzb : 1 ≤ zb ∧ zb ≤ 4 := by omega
  have ews : IntKind.i64.wrap (za + zb) = za + zb := wrapI (by omega) (by omega)
  obtain ⟨zs, hzs⟩ : ∃ z, za + zb = z := ⟨_, rfl⟩
  rw [hzs] at ews
  go_wp2_with fail
  refine (lawShown11 _).mono ?_; rintro e V1 ⟨rfl, bq⟩
  replace O := O.keep bq; replace P := P.keep bq; replace C := C.keep bq; replace HB := btrans HB bq
  clear bq
  obtain ⟨cO0, cO1, cO2, cO3, cO4⟩ := O.cells
  go_wp2_with fail
  refine (HSM.out _ HB).mono ?_; rintro e V2 ⟨rfl, bq⟩
  clear cO0 cO1 cO2 cO3 cO4
  replace O := O.keep bq; replace P := P.keep bq; replace C := C.keep bq; replace HB := btrans HB bq
  clear bq
  clear HSM
  cases sm with
  | false =>
    clear O P HM HF HRI
    go_wp2
    go_ret
    exact ⟨rfl, HB⟩
  | true =>
    obtain ⟨cO0, cO1, cO2, cO3, cO4⟩ := O.cells
    go_wp2_with (refine wpList_ldP (by rfl) _ rfl _ _ rfl (by assumption) ?_)
    refine (HRI.out _ HB).mono ?_; rintro e V3 ⟨rfl, bq⟩
    clear cO0 cO1 cO2 cO3 cO4
    replace O := O.keep bq; replace P := P.keep bq; replace C := C.keep bq; replace HB := btrans HB bq
    clear bq
    clear HRI
    cases f with
    | false =>
      clear O P HM HF
      go_wp2
      go_ret
      exact ⟨rfl, HB⟩
    | true =>
      have HRT := hid ((rtB_iff hpw).1 HF.out)
      clear HF
      obtain ⟨cC0, cC1, cC2, cC3, cC4⟩ := C.cells
      obtain ⟨tC0, tC1, tC2, tC3, tC4⟩ := C.thaw
      go_upto_region 7 with fail
      clear cC0 cC1 cC2 cC3 cC4 tC0 tC1 tC2 tC3 tC4
      replace O := O.fr (fr1 _ (mb + 1 + 1) 4 (.int .i64 zs)) (show ¬ (mb = mb + 1 + 1) by omega)
      replace P := P.fr (fr1 _ (mb + 1 + 1) 4 (.int .i64 zs)) (show ¬ (mb + 1 = mb + 1 + 1) by omega)
      replace C := C.s4 zs
      replace HB := below_fr HB (fr1 _ (mb + 1 + 1) 4 (.int .i64 zs)) (Nat.le_refl _) (by intro k hk; replace hk : k = mb + 1 + 1 := hk; omega)
      generalize V3.setCell ⟨mb + 1 + 1, 4, none⟩ (.int .i64 zs) = V4 at *
      obtain ⟨c1, hc1⟩ : ∃ d : Cm, ({ c with tk := zs } : Cm) = d := ⟨_, rfl⟩
      rw [hc1] at C
      replace hzs := hid hzs
      have w1 : c1.Wf := hc1 ▸ ⟨hc.b0, hc.b1, hc.x0, hc.x1, hc.y0, hc.y1, ⟨(by have := hzs.out; omega : -9223372036854775808 ≤ zs), (by have := hzs.out; omega : zs ≤ 9223372036854775807)⟩⟩
      obtain ⟨r1, hr1⟩ : ∃ q, step R p c1 = q := ⟨_, rfl⟩
      replace hr1 := hid hr1
      replace hc1 := hid hc1
      go_cut [12] from 36 to 39 (fun v wx => ∃ (b : Nat) (U : World), v = .pointer (some ⟨b, 0, none⟩) ∧ wx = U ∧ PlAt U b r1 ∧ Below V4.heap.size V4 U ∧ V4.heap.size ≤ b)
      case first =>
        obtain ⟨cO0, cO1, cO2, cO3, cO4⟩ := O.cells
        obtain ⟨cC0, cC1, cC2, cC3, cC4⟩ := C.cells
        go_wp2_with (refine wpList_ldP (by rfl) _ rfl _ _ rfl (by assumption) ?_)
        refine (walkStep W D H mp mn mc mf sp sn sc R HRR.out p HRT.out c1 w1 r1 hr1.out _ (HM.out _ HB)).mono ?_; rintro e VV ⟨rfl, bq⟩
        clear cO0 cO1 cO2 cO3 cO4 cC0 cC1 cC2 cC3 cC4 O P C 
        have hz : PlAt (VV.alloc (.cells #[.int .i64 0, .int .i64 0, .int .i64 0, .int .i64 0, .int .i64 0, .int .i64 0, .int .i64 0, .bool false, .int .i64 0, .int .i64 0, .int .i64 0, .int .i64 0, .int .i64 0, .int .i64 0, .int .i64 0] 30)) VV.heap.size noPl := PlAt.new VV noPl
        go_wp2_with (refine wpList_stP (by rfl) _ _ rfl _ _ (r1) rfl rfl (by assumption) (fun V9 hN hF => ?_))
        go_meet
        exact ⟨_, _, rfl, rfl, hN, below_fr (bq.alloc bq.size _) hF (Nat.le_refl _) (by intro k hk; replace hk : k = _ := hk; rw [hk]; exact bq.size), bq.size⟩
      case rest =>
      obtain ⟨ab, V5, rfl, eU, A, G, hab⟩ := hcut
      replace eU := eU.symm
      subst eU
      have lO := O.lt
      have lP := P.lt
      have lC := C.lt
      replace O := O.keep G; replace P := P.keep G; replace C := C.keep G; replace HB := btrans HB G
      clear G
      go_upto_region 8 with fail
      obtain ⟨cC0, cC1, cC2, cC3, cC4⟩ := C.cells
      obtain ⟨tC0, tC1, tC2, tC3, tC4⟩ := C.thaw
      go_upto_region 9 with fail
      clear cC0 cC1 cC2 cC3 cC4 tC0 tC1 tC2 tC3 tC4
      replace O := O.fr (fr1 _ (mb + 1 + 1) 4 (.int .i64 za)) (show ¬ (mb = mb + 1 + 1) by omega)
      replace P := P.fr (fr1 _ (mb + 1 + 1) 4 (.int .i64 za)) (show ¬ (mb + 1 = mb + 1 + 1) by omega)
      replace C := C.s4 za
      replace A := A.fr (fr1 _ (mb + 1 + 1) 4 (.int .i64 za)) (show ¬ (ab = mb + 1 + 1) by omega)
      replace HB := below_fr HB (fr1 _ (mb + 1 + 1) 4 (.int .i64 za)) (Nat.le_refl _) (by intro k hk; replace hk : k = mb + 1 + 1 := hk; omega)
      generalize V5.setCell ⟨mb + 1 + 1, 4, none⟩ (.int .i64 za) = V6 at *
      obtain ⟨c2, hc2⟩ : ∃ d : Cm, ({ c1 with tk := za } : Cm) = d := ⟨_, rfl⟩
      rw [hc2] at C
      have w2 : c2.Wf := hc2 ▸ ⟨w1.b0, w1.b1, w1.x0, w1.x1, w1.y0, w1.y1, ⟨(by omega : -9223372036854775808 ≤ za), (by omega : za ≤ 9223372036854775807)⟩⟩
      obtain ⟨r2, hr2⟩ : ∃ q, step R p c2 = q := ⟨_, rfl⟩
      have HR2 := hid (hr2 ▸ step_right HRR.out HRT.out c2 : Rt R r2)
      replace hr2 := hid hr2
      replace hc2 := hid hc2
      go_cut [13] from 42 to 45 (fun v wx => ∃ (b : Nat) (U : World), v = .pointer (some ⟨b, 0, none⟩) ∧ wx = U ∧ PlAt U b r2 ∧ Below V6.heap.size V6 U ∧ V6.heap.size ≤ b)
      case first =>
        obtain ⟨cO0, cO1, cO2, cO3, cO4⟩ := O.cells
        obtain ⟨cC0, cC1, cC2, cC3, cC4⟩ := C.cells
        go_wp2_with (refine wpList_ldP (by rfl) _ rfl _ _ rfl (by assumption) ?_)
        refine (walkStep W D H mp mn mc mf sp sn sc R HRR.out p HRT.out c2 w2 r2 hr2.out _ (HM.out _ HB)).mono ?_; rintro e VV ⟨rfl, bq⟩
        clear cO0 cO1 cO2 cO3 cO4 cC0 cC1 cC2 cC3 cC4 O P C A 
        have hz : PlAt (VV.alloc (.cells #[.int .i64 0, .int .i64 0, .int .i64 0, .int .i64 0, .int .i64 0, .int .i64 0, .int .i64 0, .bool false, .int .i64 0, .int .i64 0, .int .i64 0, .int .i64 0, .int .i64 0, .int .i64 0, .int .i64 0] 30)) VV.heap.size noPl := PlAt.new VV noPl
        go_wp2_with (refine wpList_stP (by rfl) _ _ rfl _ _ (r2) rfl rfl (by assumption) (fun V9 hN hF => ?_))
        go_meet
        exact ⟨_, _, rfl, rfl, hN, below_fr (bq.alloc bq.size _) hF (Nat.le_refl _) (by intro k hk; replace hk : k = _ := hk; rw [hk]; exact bq.size), bq.size⟩
      case rest =>
      obtain ⟨qb, V7, rfl, eU, Q, G, hqb⟩ := hcut
      replace eU := eU.symm
      subst eU
      have lO := O.lt
      have lP := P.lt
      have lC := C.lt
      have lA := A.lt
      replace O := O.keep G; replace P := P.keep G; replace C := C.keep G; replace A := A.keep G; replace HB := btrans HB G
      clear G
      go_upto_region 10 with fail
      obtain ⟨cC0, cC1, cC2, cC3, cC4⟩ := C.cells
      obtain ⟨tC0, tC1, tC2, tC3, tC4⟩ := C.thaw
      go_upto_region 11 with fail
      clear cC0 cC1 cC2 cC3 cC4 tC0 tC1 tC2 tC3 tC4
      replace O := O.fr (fr1 _ (mb + 1 + 1) 4 (.int .i64 zb)) (show ¬ (mb = mb + 1 + 1) by omega)
      replace P := P.fr (fr1 _ (mb + 1 + 1) 4 (.int .i64 zb)) (show ¬ (mb + 1 = mb + 1 + 1) by omega)
      replace C := C.s4 zb
      replace A := A.fr (fr1 _ (mb + 1 + 1) 4 (.int .i64 zb)) (show ¬ (ab = mb + 1 + 1) by omega)
      replace Q := Q.fr (fr1 _ (mb + 1 + 1) 4 (.int .i64 zb)) (show ¬ (qb = mb + 1 + 1) by omega)
      replace HB := below_fr HB (fr1 _ (mb + 1 + 1) 4 (.int .i64 zb)) (Nat.le_refl _) (by intro k hk; replace hk : k = mb + 1 + 1 := hk; omega)
      generalize V7.setCell ⟨mb + 1 + 1, 4, none⟩ (.int .i64 zb) = V8 at *
      obtain ⟨c3, hc3⟩ : ∃ d : Cm, ({ c2 with tk := zb } : Cm) = d := ⟨_, rfl⟩
      rw [hc3] at C
      have w3 : c3.Wf := hc3 ▸ ⟨w2.b0, w2.b1, w2.x0, w2.x1, w2.y0, w2.y1, ⟨(by omega : -9223372036854775808 ≤ zb), (by omega : zb ≤ 9223372036854775807)⟩⟩
      replace hc3 := hid hc3
      obtain ⟨sq, hsq⟩ : ∃ n, IntKind.u16.wrap (c3.sq + 1) = n := ⟨_, rfl⟩
      obtain ⟨cC0, cC1, cC2, cC3, cC4⟩ := C.cells
      obtain ⟨tC0, tC1, tC2, tC3, tC4⟩ := C.thaw
      go_upto_region 12 with fail
      clear cC0 cC1 cC2 cC3 cC4 tC0 tC1 tC2 tC3 tC4
      replace O := O.fr (fr1 _ (mb + 1 + 1) 0 (.int .u16 sq)) (show ¬ (mb = mb + 1 + 1) by omega)
      replace P := P.fr (fr1 _ (mb + 1 + 1) 0 (.int .u16 sq)) (show ¬ (mb + 1 = mb + 1 + 1) by omega)
      replace C := C.s0 sq
      replace A := A.fr (fr1 _ (mb + 1 + 1) 0 (.int .u16 sq)) (show ¬ (ab = mb + 1 + 1) by omega)
      replace Q := Q.fr (fr1 _ (mb + 1 + 1) 0 (.int .u16 sq)) (show ¬ (qb = mb + 1 + 1) by omega)
      replace HB := below_fr HB (fr1 _ (mb + 1 + 1) 0 (.int .u16 sq)) (Nat.le_refl _) (by intro k hk; replace hk : k = mb + 1 + 1 := hk; omega)
      generalize V8.setCell ⟨mb + 1 + 1, 0, none⟩ (.int .u16 sq) = V9 at *
      obtain ⟨c4, hc4⟩ : ∃ d : Cm, ({ c3 with sq := sq } : Cm) = d := ⟨_, rfl⟩
      rw [hc4] at C
      have w4 : c4.Wf := hc4 ▸ ⟨w3.b0, w3.b1, w3.x0, w3.x1, w3.y0, w3.y1, w3.t⟩
      clear hsq
      have hj : r1 = step R r2 c4 := by
        have e1 : c1.bt = c.bt ∧ c1.dx = c.dx ∧ c1.dy = c.dy ∧ c1.tk = zs := hc1.out ▸ ⟨rfl, rfl, rfl, rfl⟩
        have e2 : c2.bt = c1.bt ∧ c2.dx = c1.dx ∧ c2.dy = c1.dy ∧ c2.tk = za := hc2.out ▸ ⟨rfl, rfl, rfl, rfl⟩
        have e3 : c3.bt = c2.bt ∧ c3.dx = c2.dx ∧ c3.dy = c2.dy ∧ c3.tk = zb := hc3.out ▸ ⟨rfl, rfl, rfl, rfl⟩
        have e4 : c4.bt = c3.bt ∧ c4.dx = c3.dx ∧ c4.dy = c3.dy ∧ c4.tk = c3.tk := hc4 ▸ ⟨rfl, rfl, rfl, rfl⟩
        rw [← hr1.out, ← hr2.out]
        have hs := hzs.out
        exact step_joins e2.1 e2.2.1 e2.2.2.1 (e4.1.trans (e3.1.trans e2.1)) (e4.2.1.trans (e3.2.1.trans e2.2.1)) (e4.2.2.1.trans (e3.2.2.1.trans e2.2.2.1)) (by rw [e2.2.2.2]; omega) (by rw [e4.2.2.2, e3.2.2.2]; omega) (by rw [e1.2.2.2, e2.2.2.2, e4.2.2.2, e3.2.2.2]; omega)
      replace hj := hid hj.symm
      have HR4 := hid (hj.out ▸ step_right HRR.out HR2.out c4 : Rt R r1)
      clear hr1 hr2 hc1 hc2 hc3 w1 w2 w3
      obtain ⟨cO0, cO1, cO2, cO3, cO4⟩ := O.cells
      obtain ⟨cC0, cC1, cC2, cC3, cC4⟩ := C.cells
      go_wp2_with (refine wpList_ldP (by rfl) _ rfl _ _ rfl (by assumption) ?_)
      refine (walkStep W D H mp mn mc mf sp sn sc R HRR.out r2 HR2.out c4 w4 r1 hj.out _ (HM.out _ HB)).mono ?_; rintro e V10 ⟨rfl, bq⟩
      clear cO0 cO1 cO2 cO3 cO4 cC0 cC1 cC2 cC3 cC4
      replace O := O.keep bq; replace P := P.keep bq; replace C := C.keep bq; replace A := A.keep bq; replace Q := Q.keep bq; replace HB := btrans HB bq
      clear bq
      go_upto_region 13 with (refine wpList_stP (by rfl) _ _ rfl _ _ (r1) rfl rfl (by assumption) (fun V11 hN hF => ?_))
      replace O := O.fr hF (show ¬ (mb = qb) by omega)
      replace P := P.fr hF (show ¬ (mb + 1 = qb) by omega)
      replace C := C.fr hF (show ¬ (mb + 1 + 1 = qb) by omega)
      replace A := A.fr hF (show ¬ (ab = qb) by omega)
      replace Q := hN
      replace HB := below_fr HB hF (Nat.le_refl _) (by intro k hk; replace hk : k = qb := hk; omega)
      clear hN hF
      replace hc4 := hid hc4
      obtain ⟨cC0, cC1, cC2, cC3, cC4⟩ := C.cells
      obtain ⟨tC0, tC1, tC2, tC3, tC4⟩ := C.thaw
      go_upto_region 14 with fail
      clear cC0 cC1 cC2 cC3 cC4 tC0 tC1 tC2 tC3 tC4
      replace O := O.fr (fr1 _ (mb + 1 + 1) 4 (.int .i64 9)) (show ¬ (mb = mb + 1 + 1) by omega)
      replace P := P.fr (fr1 _ (mb + 1 + 1) 4 (.int .i64 9)) (show ¬ (mb + 1 = mb + 1 + 1) by omega)
      replace C := C.s4 9
      replace A := A.fr (fr1 _ (mb + 1 + 1) 4 (.int .i64 9)) (show ¬ (ab = mb + 1 + 1) by omega)
      replace Q := Q.fr (fr1 _ (mb + 1 + 1) 4 (.int .i64 9)) (show ¬ (qb = mb + 1 + 1) by omega)
      replace HB := below_fr HB (fr1 _ (mb + 1 + 1) 4 (.int .i64 9)) (Nat.le_refl _) (by intro k hk; replace hk : k = mb + 1 + 1 := hk; omega)
      generalize V11.setCell ⟨mb + 1 + 1, 4, none⟩ (.int .i64 9) = V12 at *
      obtain ⟨c5, hc5⟩ : ∃ d : Cm, ({ c4 with tk := 9 } : Cm) = d := ⟨_, rfl⟩
      rw [hc5] at C
      have w5 : c5.Wf := hc5 ▸ ⟨w4.b0, w4.b1, w4.x0, w4.x1, w4.y0, w4.y1, ⟨(by decide : (-9223372036854775808 : Int) ≤ 9), (by decide : (9 : Int) ≤ 9223372036854775807)⟩⟩
      have h5 := hid (step_9 (R := R) (p := r1) (c := c5) (hc5 ▸ (by decide : (9 : Int) > 8)))
      clear hc5 hj HR2
      go_cut [14] from 57 to 60 (fun v wx => ∃ (b : Nat) (U : World), v = .pointer (some ⟨b, 0, none⟩) ∧ wx = U ∧ PlAt U b r1 ∧ Below V12.heap.size V12 U ∧ V12.heap.size ≤ b)
      case first =>
        obtain ⟨cO0, cO1, cO2, cO3, cO4⟩ := O.cells
        obtain ⟨cC0, cC1, cC2, cC3, cC4⟩ := C.cells
        go_wp2_with (refine wpList_ldP (by rfl) _ rfl _ _ rfl (by assumption) ?_)
        refine (walkStep W D H mp mn mc mf sp sn sc R HRR.out r1 HR4.out c5 w5 r1 h5.out _ (HM.out _ HB)).mono ?_; rintro e VV ⟨rfl, bq⟩
        clear cO0 cO1 cO2 cO3 cO4 cC0 cC1 cC2 cC3 cC4 O P C A Q 
        have hz : PlAt (VV.alloc (.cells #[.int .i64 0, .int .i64 0, .int .i64 0, .int .i64 0, .int .i64 0, .int .i64 0, .int .i64 0, .bool false, .int .i64 0, .int .i64 0, .int .i64 0, .int .i64 0, .int .i64 0, .int .i64 0, .int .i64 0] 30)) VV.heap.size noPl := PlAt.new VV noPl
        go_wp2_with (refine wpList_stP (by rfl) _ _ rfl _ _ (r1) rfl rfl (by assumption) (fun V9 hN hF => ?_))
        go_meet
        exact ⟨_, _, rfl, rfl, hN, below_fr (bq.alloc bq.size _) hF (Nat.le_refl _) (by intro k hk; replace hk : k = _ := hk; rw [hk]; exact bq.size), bq.size⟩
      case rest =>
      obtain ⟨nb, V13, rfl, eU, N, G, hnb⟩ := hcut
      replace eU := eU.symm
      subst eU
      have lO := O.lt
      have lP := P.lt
      have lC := C.lt
      have lA := A.lt
      have lQ := Q.lt
      replace O := O.keep G; replace P := P.keep G; replace C := C.keep G; replace A := A.keep G; replace Q := Q.keep G; replace HB := btrans HB G
      clear G
      go_upto_region 15 with fail
      clear HRR HM HRT HR4 h5 O C P
      go_wp2_with (first | (refine wpList_ldP (by rfl) _ rfl _ _ rfl (by assumption) ?_) | (refine wpList_eqP (by rfl) _ _ _ rfl _ rfl rfl ?_))
      go_ret
      exact ⟨rfl, HB⟩
end Go.Proofs.Ytjjdclckkhddbaa
