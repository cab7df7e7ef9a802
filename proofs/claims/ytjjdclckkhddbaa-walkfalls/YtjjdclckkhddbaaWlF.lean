/- Layer 11 (walk): the walk of the law WalkFalls. -/
import Derived.Test.YtjjdclckkhddbaaWlC
namespace Go.Proofs.Ytjjdclckkhddbaa
open Go.RowKit
set_option linter.unusedVariables false
set_option linter.unusedSimpArgs false
attribute [local go_sem ↓] Go.wp_at_zero Go.wp_at_succ

set_option maxRecDepth 100000 in
set_option maxHeartbeats 4000000 in
theorem walkFalls_walk (W D H : Int) (mp : Option Addr) (mn mc : Nat) (mf : Nat → Bool) (sp : Option Addr) (sn sc : Nat) (X Y Z : Nat → Int) (p : Pl) (lp : Option Addr) (ln lc : Nat) (CF : Nat → Cm) (w : World) (hW : I64 W) (hD : I64 D) (hH : I64 H) (hm : Arg w mp mn mc fun i => .bool (mf i)) (hv : ArgW w sp sn sc X Y Z) (hX : ∀ i, I64 (X i) ∧ I64 (Y i) ∧ I64 (Z i)) (hpw : p.Wf) (hpf : p.Full) (hl : ArgC w lp ln lc CF) (hlw : ∀ i, (CF i).Wf) :
    Calls Try.prog 6 #[.agg #[.int .i64 W, .int .i64 D, .int .i64 H, .slice mp mn mc, .slice sp sn sc], .agg #[.int .i64 p.id, .int .i64 p.px, .int .i64 p.py, .int .i64 p.pz, .int .i64 p.vx, .int .i64 p.vy, .int .i64 p.vz, .bool p.gr, .int .i64 p.he, .int .i64 p.ar, .int .i64 p.sc, .int .i64 p.a0, .int .i64 p.a1, .int .i64 p.wa, .int .i64 p.de], .slice lp ln lc] w fun e w' => e = .returned (.bool true) ∧ Below w.heap.size w w' := by
  obtain ⟨R, hR⟩ := (mpOf W D H mn mf).roomOf
  obtain ⟨sr, hsr⟩ := boolOf ((mpOf W D H mn mf).RightP sn X Y Z)
  obtain ⟨sm, hsm⟩ : ∃ s, (decide (W ≤ 10) && decide (D ≤ 10) && decide (H ≤ 10) && sr) = s := ⟨_, rfl⟩
  have HSM := hid (fun V (hV : Below w.heap.size w V) => lawSmall11 W D H mp mn mc mf sp sn sc X Y Z hX sr hsr V (hm.keep hV) (hv.keep hV))
  rw [hsm] at HSM
  obtain ⟨f, hf⟩ : ∃ f, rtB R p = f := ⟨_, rfl⟩
  have HRI := hid (fun V (hV : Below w.heap.size w V) => walkRight W D H mp mn mc mf sp sn sc R hR p hpw f hf V (hm.keep hV))
  have HF := hid hf
  have HM := hid (fun V (hV : Below w.heap.size w V) => hm.keep hV)
  clear hsm hsr hf
  have HRR := hid hR
  have HLA := hid (fun V (hV : Below w.heap.size w V) => hl.keep hV)
  have lle := hl.le; have lmost := hl.most
  unfold maxLen at lmost
  clear hl
  clear hW hD hH hX hv hm hR
  have O : O5 ((w.alloc (.cells #[.int .i64 W, .int .i64 D, .int .i64 H, .slice mp mn mc, .slice sp sn sc] 25)).alloc (.cells #[.int .i64 p.id, .int .i64 p.px, .int .i64 p.py, .int .i64 p.pz, .int .i64 p.vx, .int .i64 p.vy, .int .i64 p.vz, .bool p.gr, .int .i64 p.he, .int .i64 p.ar, .int .i64 p.sc, .int .i64 p.a0, .int .i64 p.a1, .int .i64 p.wa, .int .i64 p.de] 30)) (w.heap.size) (.int .i64 W) (.int .i64 D) (.int .i64 H) (.slice mp mn mc) (.slice sp sn sc) := (O5.new _ _ _ _ _ _).alloc _
  have P : PlAt ((w.alloc (.cells #[.int .i64 W, .int .i64 D, .int .i64 H, .slice mp mn mc, .slice sp sn sc] 25)).alloc (.cells #[.int .i64 p.id, .int .i64 p.px, .int .i64 p.py, .int .i64 p.pz, .int .i64 p.vx, .int .i64 p.vy, .int .i64 p.vz, .bool p.gr, .int .i64 p.he, .int .i64 p.ar, .int .i64 p.sc, .int .i64 p.a0, .int .i64 p.a1, .int .i64 p.wa, .int .i64 p.de] 30)) (w.heap.size + 1) p := PlAt.new' _ _ (by simp)
  have HB : Below w.heap.size w ((w.alloc (.cells #[.int .i64 W, .int .i64 D, .int .i64 H, .slice mp mn mc, .slice sp sn sc] 25)).alloc (.cells #[.int .i64 p.id, .int .i64 p.px, .int .i64 p.py, .int .i64 p.pz, .int .i64 p.vx, .int .i64 p.vy, .int .i64 p.vz, .bool p.gr, .int .i64 p.he, .int .i64 p.ar, .int .i64 p.sc, .int .i64 p.a0, .int .i64 p.a1, .int .i64 p.wa, .int .i64 p.de] 30)) := ((Below.refl _ _).alloc (Nat.le_refl _) _).alloc (by simp) _
  go_enter Try.func6, Try.ntmps6
  go_upto_region 1 with fail
  obtain ⟨mb, hmb⟩ : ∃ b, w.heap.size = b := ⟨_, rfl⟩
  have hwm : w.heap.size ≤ mb := by omega
  rw [hmb] at O P
  try simp only [hmb]
  generalize ((w.alloc (.cells #[.int .i64 W, .int .i64 D, .int .i64 H, .slice mp mn mc, .slice sp sn sc] 25)).alloc (.cells #[.int .i64 p.id, .int .i64 p.px, .int .i64 p.py, .int .i64 p.pz, .int .i64 p.vx, .int .i64 p.vy, .int .i64 p.vz, .bool p.gr, .int .i64 p.he, .int .i64 p.ar, .int .i64 p.sc, .int .i64 p.a0, .int .i64 p.a1, .int .i64 p.wa, .int .i64 p.de] 30)) = V0 at *
  clear hmb
  go_wp2_with fail
  refine (lawShown11 _).mono ?_; rintro e V1 ⟨rfl, bq⟩
  replace O := O.keep bq; replace P := P.keep bq; replace HB := btrans HB bq
  clear bq
  obtain ⟨cO0, cO1, cO2, cO3, cO4⟩ := O.cells
  go_wp2_with fail
  refine (HSM.out _ HB).mono ?_; rintro e V2 ⟨rfl, bq⟩
  clear cO0 cO1 cO2 cO3 cO4
  replace O := O.keep bq; replace P := P.keep bq; replace HB := btrans HB bq
  clear bq
  clear HSM
  cases sm with
  | false =>
    clear O P HM HF HRI
    go_wp2
    go_ret
    exact ⟨rfl, HB⟩
  | true =>
    obtain ⟨cO0, cO1, cO2, cO3, cO4⟩ := O.cells
    go_wp2_with (refine wpList_ldP (by rfl) _ rfl _ _ rfl (by assumption) ?_)
    refine (HRI.out _ HB).mono ?_; rintro e V3 ⟨rfl, bq⟩
    clear cO0 cO1 cO2 cO3 cO4
    replace O := O.keep bq; replace P := P.keep bq; replace HB := btrans HB bq
    clear bq
    clear HRI
    cases f with
    | false =>
      clear O P HM HF
      go_wp2
      go_ret
      exact ⟨rfl, HB⟩
    | true =>
      have HRT := hid ((rtB_iff hpw).1 HF.out)
      clear HF
      clear hpw hpf
      go_wp2
      go_loopw [8] (fun v wr => ∃ (j : Nat) (r : Pl) (V : World), v = .int .i64 j ∧ wr = V ∧ j ≤ ln ∧ j ≤ 20 ∧ Hid (Rt R r) ∧ O5 V mb (.int .i64 W) (.int .i64 D) (.int .i64 H) (.slice mp mn mc) (.slice sp sn sc) ∧ PlAt V (mb + 1) r ∧ Below w.heap.size w V) (fun v _ => 20 - (intOf v).toNat)
      case atStart => exact ⟨0, p, _, rfl, rfl, Nat.zero_le _, by omega, HRT, O, P, HB⟩
      case round =>
        clear O P HB HRT
        obtain ⟨j, r, V, rfl, eV, hj, hj20, HRT, O, P, HB⟩ := hrel
        subst eV
        by_cases h1 : j < ln
        · skip
          by_cases h2 : j < 20
          · skip
            obtain ⟨lb, lo, rfl, hlb, hlc⟩ := (HLA.out _ HB).at h1
            obtain ⟨l0, l1, l2, l3, l4⟩ := hlc j h1
            have hcw := hlw j
            obtain ⟨c, hcj⟩ : ∃ z, CF j = z := ⟨_, rfl⟩
            rw [hcj] at l0 l1 l2 l3 l4 hcw
            clear hcj hlc
            have h1i : (j : Int) < (ln : Int) := by omega
            have h2i : (j : Int) < 20 := by omega
            obtain ⟨q, hq⟩ : ∃ q, tick R r c = q := ⟨_, rfl⟩
            have hwent := hq ▸ tick_went HRR.out HRT.out c
            have HRQ := hid (hwent.rt : Rt R q)
            replace hwent := hid hwent
            replace hq := hid hq
            have HST := hid (fun V (hV : Below wr.heap.size wr V) => walkTick W D H mp mn mc mf sp sn sc R HRR.out r HRT.out.w HRT.out.s c hcw q hq.out V (HM.out V (btrans HB hV)))
            go_upto_region 7 with fail
            obtain ⟨cO0, cO1, cO2, cO3, cO4⟩ := O.cells
            have rO0 := stays cO0
            have rO1 := stays cO1
            have rO2 := stays cO2
            have rO3 := stays cO3
            have rO4 := stays cO4
            clear cO0 cO1 cO2 cO3 cO4
            have rl0 := stays l0
            have rl1 := stays l1
            have rl2 := stays l2
            have rl3 := stays l3
            have rl4 := stays l4
            clear l0 l1 l2 l3 l4
            go_cut [9] from 31 to 37 (fun v wx => ∃ (b : Nat) (U : World), v = .pointer (some ⟨b, 0, none⟩) ∧ wx = U ∧ PlAt U b q ∧ Below wr.heap.size wr U ∧ wr.heap.size ≤ b)
            case first =>
              have D1 : Below wr.heap.size wr (wr.drewN 1) := below_drewN wr 1
              refine region_held (fun w' => Below wr.heap.size wr w') 9 rfl (by kernel_rfl) D1 ?_
              intro hHeld
              refine takeO 0 (some 31) (v := ?v1) rfl rfl (by kernel_rfl) (by kernel_rfl) (by kernel_rfl) (Or.inl ⟨by rfl, ?y1⟩) hHeld ?r1
              case y1 => (intro w' hSw; (try dsimp only at hSw); go_simp; try with_reducible rfl)
              try simp only [Act.put, List.setIfInBounds_toArray, List.set_cons_zero, List.set_cons_succ]
              refine takeO 1 (some 32) rfl rfl (by kernel_rfl) (by kernel_rfl) (by kernel_rfl) (yields_rowP (by rfl) rfl rfl (fun w h => P.keep h)) hHeld ?_
              try simp only [Act.put, List.setIfInBounds_toArray, List.set_cons_zero, List.set_cons_succ]
              refine takeO 2 (some 33) (v := ?v2) rfl rfl (by kernel_rfl) (by kernel_rfl) (by kernel_rfl) (Or.inl ⟨by rfl, ?y2⟩) hHeld ?r2
              case y2 => (intro w' hSw; (try dsimp only at hSw); go_simp; try with_reducible rfl)
              try simp only [Act.put, List.setIfInBounds_toArray, List.set_cons_zero, List.set_cons_succ]
              refine takeO 3 (some 34) (v := ?v3) rfl rfl (by kernel_rfl) (by kernel_rfl) (by kernel_rfl) (Or.inl ⟨by rfl, ?y3⟩) hHeld ?r3
              case y3 => (intro w' hSw; (try dsimp only at hSw); go_simp; try with_reducible rfl)
              try simp only [Act.put, List.setIfInBounds_toArray, List.set_cons_zero, List.set_cons_succ]
              refine takeO 4 (some 35) (v := ?v4) rfl rfl (by kernel_rfl) (by kernel_rfl) (by kernel_rfl) (Or.inl ⟨by rfl, ?y4⟩) hHeld ?r4
              case y4 => (intro w' hSw; (try dsimp only at hSw); go_simp; try with_reducible rfl)
              try simp only [Act.put, List.setIfInBounds_toArray, List.set_cons_zero, List.set_cons_succ]
              refine takeO 5 (some 36) (v := ?v5) rfl rfl (by kernel_rfl) (by kernel_rfl) (by kernel_rfl) (Or.inl ⟨by rfl, ?y5⟩) hHeld ?r5
              case y5 => (intro w' hSw; (try dsimp only at hSw); go_simp; try with_reducible rfl)
              try simp only [Act.put, List.setIfInBounds_toArray, List.set_cons_zero, List.set_cons_succ]
              refine wpAnyH_ready (rs := [6, 7]) (by kernel_rfl) (by simp) ?_
              refine AllReadyH.cons rfl (fun K hK => ?_) (AllReadyH.cons rfl (fun K hK => ?_) AllReadyH.nil)
              · skip
                go_simp
                refine (HST.out _ D1).mono ?_
                rintro e V1 ⟨rfl, bq⟩
                dsimp only
                have G1 : Below wr.heap.size wr V1 := Below.trans D1 bq
                refine hK.out _ _ G1 (fun hHeld => ?_)
                clear hK K bq
                refine wpAnyH_ready (rs := [7]) (by kernel_rfl) (by simp) ?_
                refine AllReadyH.cons rfl (fun K hK => ?_) AllReadyH.nil
                go_simp
                have GA : Below wr.heap.size wr (V1.alloc (.cells #[.int .i64 0, .int .i64 0, .int .i64 0, .int .i64 0, .int .i64 0, .int .i64 0, .int .i64 0, .bool false, .int .i64 0, .int .i64 0, .int .i64 0, .int .i64 0, .int .i64 0, .int .i64 0, .int .i64 0] 30)) := G1.alloc G1.size _
                refine hK.out _ _ GA (fun hHeld => ?_)
                clear hK K
                have hN : PlAt (V1.alloc (.cells #[.int .i64 0, .int .i64 0, .int .i64 0, .int .i64 0, .int .i64 0, .int .i64 0, .int .i64 0, .bool false, .int .i64 0, .int .i64 0, .int .i64 0, .int .i64 0, .int .i64 0, .int .i64 0, .int .i64 0] 30)) V1.heap.size noPl := PlAt.new V1 noPl
                have hR := G1.size
                refine wpAnyH_ready (rs := [8]) (by kernel_rfl) (by simp) ?_
                refine AllReadyH.cons rfl (fun K hK => ?_) AllReadyH.nil
                refine wp_stP _ _ rfl _ _ q rfl rfl hN (fun V9 hN2 hF => ?_)
                have G9 := below_fr GA hF (Nat.le_refl _) (by intro k hk; replace hk : k = _ := hk; rw [hk]; exact hR)
                refine hK.out _ _ G9 (fun hHeld => ?_)
                refine wpAnyH_done (by kernel_rfl) (Only.on ?_) _
                clear hK K hHeld
                go_wp2
                go_meet
                exact ⟨_, _, rfl, rfl, hN2, G9, hR⟩
              · skip
                go_simp
                have GA : Below wr.heap.size wr (wr.alloc (.cells #[.int .i64 0, .int .i64 0, .int .i64 0, .int .i64 0, .int .i64 0, .int .i64 0, .int .i64 0, .bool false, .int .i64 0, .int .i64 0, .int .i64 0, .int .i64 0, .int .i64 0, .int .i64 0, .int .i64 0] 30)).drew := ((Below.refl _ _).alloc (Nat.le_refl _) _).drew
                refine hK.out _ _ GA (fun hHeld => ?_)
                clear hK K
                have hN0 : PlAt (wr.alloc (.cells #[.int .i64 0, .int .i64 0, .int .i64 0, .int .i64 0, .int .i64 0, .int .i64 0, .int .i64 0, .bool false, .int .i64 0, .int .i64 0, .int .i64 0, .int .i64 0, .int .i64 0, .int .i64 0, .int .i64 0] 30)).drew wr.heap.size noPl := ⟨(PlAt.new wr noPl).obj⟩
                refine wpAnyH_ready (rs := [6]) (by kernel_rfl) (by simp) ?_
                refine AllReadyH.cons rfl (fun K hK => ?_) AllReadyH.nil
                go_simp
                refine (HST.out _ GA).mono ?_
                rintro e V1 ⟨rfl, bq⟩
                dsimp only
                have hN := hN0.keep bq
                replace GA := btrans GA bq
                have hR := Nat.le_refl wr.heap.size
                refine hK.out _ _ GA (fun hHeld => ?_)
                clear hK K bq hN0
                refine wpAnyH_ready (rs := [8]) (by kernel_rfl) (by simp) ?_
                refine AllReadyH.cons rfl (fun K hK => ?_) AllReadyH.nil
                refine wp_stP _ _ rfl _ _ q rfl rfl hN (fun V9 hN2 hF => ?_)
                have G9 := below_fr GA hF (Nat.le_refl _) (by intro k hk; replace hk : k = _ := hk; rw [hk]; exact hR)
                refine hK.out _ _ G9 (fun hHeld => ?_)
                refine wpAnyH_done (by kernel_rfl) (Only.on ?_) _
                clear hK K hHeld
                go_wp2
                go_meet
                exact ⟨_, _, rfl, rfl, hN2, G9, hR⟩
            case rest =>
            clear HST rO0 rO1 rO2 rO3 rO4 rl0 rl1 rl2 rl3 rl4
            obtain ⟨qb, V1, rfl, eU, Q, G, hqb⟩ := hcut
            replace eU := eU.symm
            subst eU
            have lO := O.lt
            have lP := P.lt
            replace O := O.keep G; replace P := P.keep G; replace HB := btrans HB G
            clear G
            obtain ⟨hi, ⟨i1, i2⟩, ⟨i3, i4⟩, ⟨i5, i6⟩⟩ := ((HRR.out _ _ _).1 HRT.out.f).inside HRT.out.w.x HRT.out.w.y HRT.out.w.z
            obtain ⟨w1, w2, w3, w4, w5, w6, w7⟩ := hi
            dsimp only [mpOf] at i2 i4 i6 w2 w4 w6
            obtain ⟨fx0, fx1⟩ := hwent.out.fx
            have ewx : IntKind.i64.wrap (q.px - r.px) = q.px - r.px := wrapI (by omega) (by omega)
            obtain ⟨dx, hdx⟩ : ∃ d, q.px - r.px = d := ⟨_, rfl⟩
            rw [hdx] at ewx fx0 fx1
            have ndx : nearB dx = true := by unfold nearB; simp; omega
            replace ndx := hid ndx
            obtain ⟨fy0, fy1⟩ := hwent.out.fy
            have ewy : IntKind.i64.wrap (q.py - r.py) = q.py - r.py := wrapI (by omega) (by omega)
            obtain ⟨dy, hdy⟩ : ∃ d, q.py - r.py = d := ⟨_, rfl⟩
            rw [hdy] at ewy fy0 fy1
            have ndy : nearB dy = true := by unfold nearB; simp; omega
            replace ndy := hid ndy
            obtain ⟨fz0, fz1⟩ := hwent.out.fz
            have ewz : IntKind.i64.wrap (q.pz - r.pz) = q.pz - r.pz := wrapI (by omega) (by omega)
            obtain ⟨dz, hdz⟩ : ∃ d, q.pz - r.pz = d := ⟨_, rfl⟩
            rw [hdz] at ewz fz0 fz1
            have ndz : nearB dz = true := by unfold nearB; simp; omega
            replace ndz := hid ndz
            have nvx : nearB q.vx = true := by have h0 := HRQ.out.s.a0; have h1 := HRQ.out.s.a1; unfold nearB; simp; omega
            replace nvx := hid nvx
            have nvy : nearB q.vy = true := by have h0 := HRQ.out.s.b0; have h1 := HRQ.out.s.b1; unfold nearB; simp; omega
            replace nvy := hid nvy
            have nvz : nearB q.vz = true := by have h0 := HRQ.out.s.c0; have h1 := HRQ.out.s.c1; unfold nearB; simp; omega
            replace nvz := hid nvz
            clear i1 i2 i3 i4 i5 i6 w1 w2 w3 w4 w5 w6 w7 fx0 fx1 fy0 fy1 fz0 fz1
            replace HRT := hid HRT.out
            go_upto_region 8 with fail
            obtain ⟨cP0, cP1, cP2, cP3, cP4, cP5, cP6, cP7, cP8, cP9, cP10, cP11, cP12, cP13, cP14⟩ := P.cells
            obtain ⟨cQ0, cQ1, cQ2, cQ3, cQ4, cQ5, cQ6, cQ7, cQ8, cQ9, cQ10, cQ11, cQ12, cQ13, cQ14⟩ := Q.cells
            go_wp2_with fail
            refine (lawFar _ _).mono ?_; rintro e V18 ⟨rfl, hv⟩
            replace hv := hv.symm; subst hv
            rw [ndx.out]
            go_wp2_with fail
            refine (lawFar _ _).mono ?_; rintro e V18 ⟨rfl, hv⟩
            replace hv := hv.symm; subst hv
            rw [ndy.out]
            go_wp2_with fail
            refine (lawFar _ _).mono ?_; rintro e V18 ⟨rfl, hv⟩
            replace hv := hv.symm; subst hv
            rw [ndz.out]
            go_wp2_with fail
            refine (lawFar _ _).mono ?_; rintro e V18 ⟨rfl, hv⟩
            replace hv := hv.symm; subst hv
            rw [nvx.out]
            go_wp2_with fail
            refine (lawFar _ _).mono ?_; rintro e V18 ⟨rfl, hv⟩
            replace hv := hv.symm; subst hv
            rw [nvy.out]
            go_wp2_with fail
            refine (lawFar _ _).mono ?_; rintro e V18 ⟨rfl, hv⟩
            replace hv := hv.symm; subst hv
            rw [nvz.out]
            have hg := hwent.out.g
            clear hwent ndx ndy ndz nvx nvy nvz ewx ewy ewz hdx hdy hdz
            obtain ⟨g, hgg⟩ : ∃ g, q.gr = g := ⟨_, rfl⟩
            rw [hgg] at cQ7 hg
            go_upto_region 10 with fail
            cases g with
            | false =>
              clear hg
              go_upto_region 12 with fail
              clear cP0 cP1 cP2 cP3 cP4 cP5 cP6 cP7 cP8 cP9 cP10 cP11 cP12 cP13 cP14 cQ0 cQ1 cQ2 cQ3 cQ4 cQ5 cQ6 cQ7 cQ8 cQ9 cQ10 cQ11 cQ12 cQ13 cQ14
              go_wp2_with (first | (refine wpList_ldP (by rfl) _ rfl _ _ rfl (by assumption) ?_) | (refine wpList_stP (by rfl) _ _ rfl _ _ (q) rfl rfl (by assumption) (fun V7 hN hF => ?_)))
              replace O := O.fr hF (show ¬ (mb = mb + 1) by omega)
              replace P := hN
              replace Q := Q.fr hF (show ¬ (qb = mb + 1) by omega)
              replace HB := below_fr HB hF (Nat.le_refl _) (by intro k hk; replace hk : k = mb + 1 := hk; omega)
              clear hN hF
              exact ⟨⟨j + 1, q, _, by go_num, rfl, by omega, by omega, HRQ, O, P, HB⟩, by simp [intOf]; omega⟩
            | true =>
              by_cases hd : r.de > 0
              · skip
                have hd0 : 0 < r.de := hd
                have hd1 : ¬ r.de ≤ 0 := by omega
                clear hg
                obtain ⟨n1, hn1⟩ : ∃ b, (q.vz != 0) = b := ⟨_, rfl⟩
                obtain ⟨n2, hn2⟩ : ∃ b, (q.pz != r.pz) = b := ⟨_, rfl⟩
                cases n1 <;> cases n2
                · skip
                  go_upto_region 12 with fail
                  clear cP0 cP1 cP2 cP3 cP4 cP5 cP6 cP7 cP8 cP9 cP10 cP11 cP12 cP13 cP14 cQ0 cQ1 cQ2 cQ3 cQ4 cQ5 cQ6 cQ7 cQ8 cQ9 cQ10 cQ11 cQ12 cQ13 cQ14
                  go_wp2_with (first | (refine wpList_ldP (by rfl) _ rfl _ _ rfl (by assumption) ?_) | (refine wpList_stP (by rfl) _ _ rfl _ _ (q) rfl rfl (by assumption) (fun V7 hN hF => ?_)))
                  replace O := O.fr hF (show ¬ (mb = mb + 1) by omega)
                  replace P := hN
                  replace Q := Q.fr hF (show ¬ (qb = mb + 1) by omega)
                  replace HB := below_fr HB hF (Nat.le_refl _) (by intro k hk; replace hk : k = mb + 1 := hk; omega)
                  clear hN hF
                  exact ⟨⟨j + 1, q, _, by go_num, rfl, by omega, by omega, HRQ, O, P, HB⟩, by simp [intOf]; omega⟩
                · skip
                  go_upto_region 12 with fail
                  clear cP0 cP1 cP2 cP3 cP4 cP5 cP6 cP7 cP8 cP9 cP10 cP11 cP12 cP13 cP14 cQ0 cQ1 cQ2 cQ3 cQ4 cQ5 cQ6 cQ7 cQ8 cQ9 cQ10 cQ11 cQ12 cQ13 cQ14
                  go_wp2_with (first | (refine wpList_ldP (by rfl) _ rfl _ _ rfl (by assumption) ?_) | (refine wpList_stP (by rfl) _ _ rfl _ _ (q) rfl rfl (by assumption) (fun V7 hN hF => ?_)))
                  replace O := O.fr hF (show ¬ (mb = mb + 1) by omega)
                  replace P := hN
                  replace Q := Q.fr hF (show ¬ (qb = mb + 1) by omega)
                  replace HB := below_fr HB hF (Nat.le_refl _) (by intro k hk; replace hk : k = mb + 1 := hk; omega)
                  clear hN hF
                  exact ⟨⟨j + 1, q, _, by go_num, rfl, by omega, by omega, HRQ, O, P, HB⟩, by simp [intOf]; omega⟩
                · skip
                  go_upto_region 12 with fail
                  clear cP0 cP1 cP2 cP3 cP4 cP5 cP6 cP7 cP8 cP9 cP10 cP11 cP12 cP13 cP14 cQ0 cQ1 cQ2 cQ3 cQ4 cQ5 cQ6 cQ7 cQ8 cQ9 cQ10 cQ11 cQ12 cQ13 cQ14
                  go_wp2_with (first | (refine wpList_ldP (by rfl) _ rfl _ _ rfl (by assumption) ?_) | (refine wpList_stP (by rfl) _ _ rfl _ _ (q) rfl rfl (by assumption) (fun V7 hN hF => ?_)))
                  replace O := O.fr hF (show ¬ (mb = mb + 1) by omega)
                  replace P := hN
                  replace Q := Q.fr hF (show ¬ (qb = mb + 1) by omega)
                  replace HB := below_fr HB hF (Nat.le_refl _) (by intro k hk; replace hk : k = mb + 1 := hk; omega)
                  clear hN hF
                  exact ⟨⟨j + 1, q, _, by go_num, rfl, by omega, by omega, HRQ, O, P, HB⟩, by simp [intOf]; omega⟩
                · skip
                  go_upto_region 12 with fail
                  clear cP0 cP1 cP2 cP3 cP4 cP5 cP6 cP7 cP8 cP9 cP10 cP11 cP12 cP13 cP14 cQ0 cQ1 cQ2 cQ3 cQ4 cQ5 cQ6 cQ7 cQ8 cQ9 cQ10 cQ11 cQ12 cQ13 cQ14
                  go_wp2_with (first | (refine wpList_ldP (by rfl) _ rfl _ _ rfl (by assumption) ?_) | (refine wpList_stP (by rfl) _ _ rfl _ _ (q) rfl rfl (by assumption) (fun V7 hN hF => ?_)))
                  replace O := O.fr hF (show ¬ (mb = mb + 1) by omega)
                  replace P := hN
                  replace Q := Q.fr hF (show ¬ (qb = mb + 1) by omega)
                  replace HB := below_fr HB hF (Nat.le_refl _) (by intro k hk; replace hk : k = mb + 1 := hk; omega)
                  clear hN hF
                  exact ⟨⟨j + 1, q, _, by go_num, rfl, by omega, by omega, HRQ, O, P, HB⟩, by simp [intOf]; omega⟩
              · skip
                obtain ⟨z1, z2⟩ := hg (by omega) rfl
                rw [z1] at cQ6
                rw [z2] at cQ3
                clear z1 z2 hg
                have hd0 : ¬ 0 < r.de := hd
                have hd1 : r.de ≤ 0 := by omega
                go_upto_region 12 with fail
                clear cP0 cP1 cP2 cP3 cP4 cP5 cP6 cP7 cP8 cP9 cP10 cP11 cP12 cP13 cP14 cQ0 cQ1 cQ2 cQ3 cQ4 cQ5 cQ6 cQ7 cQ8 cQ9 cQ10 cQ11 cQ12 cQ13 cQ14
                go_wp2_with (first | (refine wpList_ldP (by rfl) _ rfl _ _ rfl (by assumption) ?_) | (refine wpList_stP (by rfl) _ _ rfl _ _ (q) rfl rfl (by assumption) (fun V7 hN hF => ?_)))
                replace O := O.fr hF (show ¬ (mb = mb + 1) by omega)
                replace P := hN
                replace Q := Q.fr hF (show ¬ (qb = mb + 1) by omega)
                replace HB := below_fr HB hF (Nat.le_refl _) (by intro k hk; replace hk : k = mb + 1 := hk; omega)
                clear hN hF
                exact ⟨⟨j + 1, q, _, by go_num, rfl, by omega, by omega, HRQ, O, P, HB⟩, by simp [intOf]; omega⟩
          · skip
            have h1i : (j : Int) < (ln : Int) := by omega
            have h2i : ¬ (j : Int) < 20 := by omega
            go_wp2
            go_ret
            exact ⟨rfl, HB⟩
        · skip
          have h1i : ¬ (j : Int) < (ln : Int) := by omega
          go_wp2
          go_ret
          exact ⟨rfl, HB⟩
end Go.Proofs.Ytjjdclckkhddbaa
