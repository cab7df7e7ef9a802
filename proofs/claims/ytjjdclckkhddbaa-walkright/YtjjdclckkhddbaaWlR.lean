/- Layer 11 (walk): the walk of the law WalkRight. -/
import Derived.Test.YtjjdclckkhddbaaWlC
namespace Go.Proofs.Ytjjdclckkhddbaa
open Go.RowKit
set_option linter.unusedVariables false
set_option linter.unusedSimpArgs false
attribute [local go_sem ↓] Go.wp_at_zero Go.wp_at_succ

set_option maxRecDepth 100000 in
set_option maxHeartbeats 4000000 in
theorem walkRight_walk (W D H : Int) (mp : Option Addr) (mn mc : Nat) (mf : Nat → Bool) (sp : Option Addr) (sn sc : Nat) (X Y Z : Nat → Int) (p : Pl) (lp : Option Addr) (ln lc : Nat) (CF : Nat → Cm) (w : World) (hW : I64 W) (hD : I64 D) (hH : I64 H) (hm : Arg w mp mn mc fun i => .bool (mf i)) (hv : ArgW w sp sn sc X Y Z) (hX : ∀ i, I64 (X i) ∧ I64 (Y i) ∧ I64 (Z i)) (hpw : p.Wf) (hpf : p.Full) (hl : ArgC w lp ln lc CF) (hlw : ∀ i, (CF i).Wf) :
    Calls Try.prog 4 #[.agg #[.int .i64 W, .int .i64 D, .int .i64 H, .slice mp mn mc, .slice sp sn sc], .agg #[.int .i64 p.id, .int .i64 p.px, .int .i64 p.py, .int .i64 p.pz, .int .i64 p.vx, .int .i64 p.vy, .int .i64 p.vz, .bool p.gr, .int .i64 p.he, .int .i64 p.ar, .int .i64 p.sc, .int .i64 p.a0, .int .i64 p.a1, .int .i64 p.wa, .int .i64 p.de], .slice lp ln lc] w fun e w' => e = .returned (.bool true) ∧ Below w.heap.size w w' := by
  obtain ⟨R, hR⟩ := (mpOf W D H mn mf).roomOf
  obtain ⟨sr, hsr⟩ := boolOf ((mpOf W D H mn mf).RightP sn X Y Z)
  obtain ⟨sm, hsm⟩ : ∃ s, (decide (W ≤ 10) && decide (D ≤ 10) && decide (H ≤ 10) && sr) = s := ⟨_, rfl⟩
  have HSM := hid (fun V (hV : Below w.heap.size w V) => lawSmall11 W D H mp mn mc mf sp sn sc X Y Z hX sr hsr V (hm.keep hV) (hv.keep hV))
  rw [hsm] at HSM
  obtain ⟨f, hf⟩ : ∃ f, rtB R p = f := ⟨_, rfl⟩
  have HRI := hid (fun V (hV : Below w.heap.size w V) => walkRight W D H mp mn mc mf sp sn sc R hR p hpw f hf V (hm.keep hV))
  have HF := hid hf
  have HM := hid (fun V (hV : Below w.heap.size w V) => hm.keep hV)
  clear hsm hsr hf
  have HRR := hid hR
  have HLA := hid (fun V (hV : Below w.heap.size w V) => hl.keep hV)
  have lle := hl.le; have lmost := hl.most
  unfold maxLen at lmost
  clear hl
  clear hW hD hH hX hv hm hR
  have O : O5 ((w.alloc (.cells #[.int .i64 W, .int .i64 D, .int .i64 H, .slice mp mn mc, .slice sp sn sc] 25)).alloc (.cells #[.int .i64 p.id, .int .i64 p.px, .int .i64 p.py, .int .i64 p.pz, .int .i64 p.vx, .int .i64 p.vy, .int .i64 p.vz, .bool p.gr, .int .i64 p.he, .int .i64 p.ar, .int .i64 p.sc, .int .i64 p.a0, .int .i64 p.a1, .int .i64 p.wa, .int .i64 p.de] 30)) (w.heap.size) (.int .i64 W) (.int .i64 D) (.int .i64 H) (.slice mp mn mc) (.slice sp sn sc) := (O5.new _ _ _ _ _ _).alloc _
  have P : PlAt ((w.alloc (.cells #[.int .i64 W, .int .i64 D, .int .i64 H, .slice mp mn mc, .slice sp sn sc] 25)).alloc (.cells #[.int .i64 p.id, .int .i64 p.px, .int .i64 p.py, .int .i64 p.pz, .int .i64 p.vx, .int .i64 p.vy, .int .i64 p.vz, .bool p.gr, .int .i64 p.he, .int .i64 p.ar, .int .i64 p.sc, .int .i64 p.a0, .int .i64 p.a1, .int .i64 p.wa, .int .i64 p.de] 30)) (w.heap.size + 1) p := PlAt.new' _ _ (by simp)
  have HB : Below w.heap.size w ((w.alloc (.cells #[.int .i64 W, .int .i64 D, .int .i64 H, .slice mp mn mc, .slice sp sn sc] 25)).alloc (.cells #[.int .i64 p.id, .int .i64 p.px, .int .i64 p.py, .int .i64 p.pz, .int .i64 p.vx, .int .i64 p.vy, .int .i64 p.vz, .bool p.gr, .int .i64 p.he, .int .i64 p.ar, .int .i64 p.sc, .int .i64 p.a0, .int .i64 p.a1, .int .i64 p.wa, .int .i64 p.de] 30)) := ((Below.refl _ _).alloc (Nat.le_refl _) _).alloc (by simp) _
  go_enter Try.func4, Try.ntmps4
  go_upto_region 1 with fail
  obtain ⟨mb, hmb⟩ : ∃ b, w.heap.size = b := ⟨_, rfl⟩
  have hwm : w.heap.size ≤ mb := by omega
  rw [hmb] at O P
  try simp only [hmb]
  generalize ((w.alloc (.cells #[.int .i64 W, .int .i64 D, .int .i64 H, .slice mp mn mc, .slice sp sn sc] 25)).alloc (.cells #[.int .i64 p.id, .int .i64 p.px, .int .i64 p.py, .int .i64 p.pz, .int .i64 p.vx, .int .i64 p.vy, .int .i64 p.vz, .bool p.gr, .int .i64 p.he, .int .i64 p.ar, .int .i64 p.sc, .int .i64 p.a0, .int .i64 p.a1, .int .i64 p.wa, .int .i64 p.de] 30)) = V0 at *
  clear hmb
  go_wp2_with fail
  refine (lawShown11 _).mono ?_; rintro e V1 ⟨rfl, bq⟩
  replace O := O.keep bq; replace P := P.keep bq; replace HB := btrans HB bq
  clear bq
  obtain ⟨cO0, cO1, cO2, cO3, cO4⟩ := O.cells
  go_wp2_with fail
  refine (HSM.out _ HB).mono ?_; rintro e V2 ⟨rfl, bq⟩
  clear cO0 cO1 cO2 cO3 cO4
  replace O := O.keep bq; replace P := P.keep bq; replace HB := btrans HB bq
  clear bq
  clear HSM
  cases sm with
  | false =>
    clear O P HM HF HRI
    go_wp2
    go_ret
    exact ⟨rfl, HB⟩
  | true =>
    obtain ⟨cO0, cO1, cO2, cO3, cO4⟩ := O.cells
    go_wp2_with (refine wpList_ldP (by rfl) _ rfl _ _ rfl (by assumption) ?_)
    refine (HRI.out _ HB).mono ?_; rintro e V3 ⟨rfl, bq⟩
    clear cO0 cO1 cO2 cO3 cO4
    replace O := O.keep bq; replace P := P.keep bq; replace HB := btrans HB bq
    clear bq
    clear HRI
    cases f with
    | false =>
      clear O P HM HF
      go_wp2
      go_ret
      exact ⟨rfl, HB⟩
    | true =>
      have HRT := hid ((rtB_iff hpw).1 HF.out)
      clear HF
      clear hpw hpf
      go_wp2
      go_loopw [8] (fun v wr => ∃ (j : Nat) (r : Pl) (V : World), v = .int .i64 j ∧ wr = V ∧ j ≤ ln ∧ j ≤ 20 ∧ Hid (Rt R r) ∧ O5 V mb (.int .i64 W) (.int .i64 D) (.int .i64 H) (.slice mp mn mc) (.slice sp sn sc) ∧ PlAt V (mb + 1) r ∧ Below w.heap.size w V) (fun v _ => 20 - (intOf v).toNat)
      case atStart => exact ⟨0, p, _, rfl, rfl, Nat.zero_le _, by omega, HRT, O, P, HB⟩
      case round =>
        clear O P HB HRT
        obtain ⟨j, r, V, rfl, eV, hj, hj20, HRT, O, P, HB⟩ := hrel
        subst eV
        by_cases h1 : j < ln
        · skip
          by_cases h2 : j < 20
          · skip
            obtain ⟨lb, lo, rfl, hlb, hlc⟩ := (HLA.out _ HB).at h1
            obtain ⟨l0, l1, l2, l3, l4⟩ := hlc j h1
            have hcw := hlw j
            obtain ⟨c, hcj⟩ : ∃ z, CF j = z := ⟨_, rfl⟩
            rw [hcj] at l0 l1 l2 l3 l4 hcw
            clear hcj hlc
            have h1i : (j : Int) < (ln : Int) := by omega
            have h2i : (j : Int) < 20 := by omega
            obtain ⟨q, hq⟩ : ∃ q, step R r c = q := ⟨_, rfl⟩
            have HRQ := hid (hq ▸ step_right HRR.out HRT.out c : Rt R q)
            have hsame := hid (hq ▸ step_same R r c : Same r q)
            have hdead := hid (fun (h : r.de > 0) => hq ▸ step_dead h c : r.de > 0 → q = r)
            replace hq := hid hq
            have HST := hid (fun V (hV : Below wr.heap.size wr V) => walkStep W D H mp mn mc mf sp sn sc R HRR.out r HRT.out c hcw q hq.out V (HM.out V (btrans HB hV)))
            go_upto_region 7 with fail
            obtain ⟨cO0, cO1, cO2, cO3, cO4⟩ := O.cells
            have rO0 := stays cO0
            have rO1 := stays cO1
            have rO2 := stays cO2
            have rO3 := stays cO3
            have rO4 := stays cO4
            clear cO0 cO1 cO2 cO3 cO4
            have rl0 := stays l0
            have rl1 := stays l1
            have rl2 := stays l2
            have rl3 := stays l3
            have rl4 := stays l4
            clear l0 l1 l2 l3 l4
            go_cut [9] from 32 to 38 (fun v wx => ∃ (b : Nat) (U : World), v = .pointer (some ⟨b, 0, none⟩) ∧ wx = U ∧ PlAt U b q ∧ Below wr.heap.size wr U ∧ wr.heap.size ≤ b)
            case first =>
              have D1 : Below wr.heap.size wr (wr.drewN 1) := below_drewN wr 1
              refine region_held (fun w' => Below wr.heap.size wr w') 9 rfl (by kernel_rfl) D1 ?_
              intro hHeld
              refine takeO 0 (some 32) (v := ?v1) rfl rfl (by kernel_rfl) (by kernel_rfl) (by kernel_rfl) (Or.inl ⟨by rfl, ?y1⟩) hHeld ?r1
              case y1 => (intro w' hSw; (try dsimp only at hSw); go_simp; try with_reducible rfl)
              try simp only [Act.put, List.setIfInBounds_toArray, List.set_cons_zero, List.set_cons_succ]
              refine takeO 1 (some 33) rfl rfl (by kernel_rfl) (by kernel_rfl) (by kernel_rfl) (yields_rowP (by rfl) rfl rfl (fun w h => P.keep h)) hHeld ?_
              try simp only [Act.put, List.setIfInBounds_toArray, List.set_cons_zero, List.set_cons_succ]
              refine takeO 2 (some 34) (v := ?v2) rfl rfl (by kernel_rfl) (by kernel_rfl) (by kernel_rfl) (Or.inl ⟨by rfl, ?y2⟩) hHeld ?r2
              case y2 => (intro w' hSw; (try dsimp only at hSw); go_simp; try with_reducible rfl)
              try simp only [Act.put, List.setIfInBounds_toArray, List.set_cons_zero, List.set_cons_succ]
              refine takeO 3 (some 35) (v := ?v3) rfl rfl (by kernel_rfl) (by kernel_rfl) (by kernel_rfl) (Or.inl ⟨by rfl, ?y3⟩) hHeld ?r3
              case y3 => (intro w' hSw; (try dsimp only at hSw); go_simp; try with_reducible rfl)
              try simp only [Act.put, List.setIfInBounds_toArray, List.set_cons_zero, List.set_cons_succ]
              refine takeO 4 (some 36) (v := ?v4) rfl rfl (by kernel_rfl) (by kernel_rfl) (by kernel_rfl) (Or.inl ⟨by rfl, ?y4⟩) hHeld ?r4
              case y4 => (intro w' hSw; (try dsimp only at hSw); go_simp; try with_reducible rfl)
              try simp only [Act.put, List.setIfInBounds_toArray, List.set_cons_zero, List.set_cons_succ]
              refine takeO 5 (some 37) (v := ?v5) rfl rfl (by kernel_rfl) (by kernel_rfl) (by kernel_rfl) (Or.inl ⟨by rfl, ?y5⟩) hHeld ?r5
              case y5 => (intro w' hSw; (try dsimp only at hSw); go_simp; try with_reducible rfl)
              try simp only [Act.put, List.setIfInBounds_toArray, List.set_cons_zero, List.set_cons_succ]
              refine wpAnyH_ready (rs := [6, 7]) (by kernel_rfl) (by simp) ?_
              refine AllReadyH.cons rfl (fun K hK => ?_) (AllReadyH.cons rfl (fun K hK => ?_) AllReadyH.nil)
              · skip
                go_simp
                refine (HST.out _ D1).mono ?_
                rintro e V1 ⟨rfl, bq⟩
                dsimp only
                have G1 : Below wr.heap.size wr V1 := Below.trans D1 bq
                refine hK.out _ _ G1 (fun hHeld => ?_)
                clear hK K bq
                refine wpAnyH_ready (rs := [7]) (by kernel_rfl) (by simp) ?_
                refine AllReadyH.cons rfl (fun K hK => ?_) AllReadyH.nil
                go_simp
                have GA : Below wr.heap.size wr (V1.alloc (.cells #[.int .i64 0, .int .i64 0, .int .i64 0, .int .i64 0, .int .i64 0, .int .i64 0, .int .i64 0, .bool false, .int .i64 0, .int .i64 0, .int .i64 0, .int .i64 0, .int .i64 0, .int .i64 0, .int .i64 0] 30)) := G1.alloc G1.size _
                refine hK.out _ _ GA (fun hHeld => ?_)
                clear hK K
                have hN : PlAt (V1.alloc (.cells #[.int .i64 0, .int .i64 0, .int .i64 0, .int .i64 0, .int .i64 0, .int .i64 0, .int .i64 0, .bool false, .int .i64 0, .int .i64 0, .int .i64 0, .int .i64 0, .int .i64 0, .int .i64 0, .int .i64 0] 30)) V1.heap.size noPl := PlAt.new V1 noPl
                have hR := G1.size
                refine wpAnyH_ready (rs := [8]) (by kernel_rfl) (by simp) ?_
                refine AllReadyH.cons rfl (fun K hK => ?_) AllReadyH.nil
                refine wp_stP _ _ rfl _ _ q rfl rfl hN (fun V9 hN2 hF => ?_)
                have G9 := below_fr GA hF (Nat.le_refl _) (by intro k hk; replace hk : k = _ := hk; rw [hk]; exact hR)
                refine hK.out _ _ G9 (fun hHeld => ?_)
                refine wpAnyH_done (by kernel_rfl) (Only.on ?_) _
                clear hK K hHeld
                go_wp2
                go_meet
                exact ⟨_, _, rfl, rfl, hN2, G9, hR⟩
              · skip
                go_simp
                have GA : Below wr.heap.size wr (wr.alloc (.cells #[.int .i64 0, .int .i64 0, .int .i64 0, .int .i64 0, .int .i64 0, .int .i64 0, .int .i64 0, .bool false, .int .i64 0, .int .i64 0, .int .i64 0, .int .i64 0, .int .i64 0, .int .i64 0, .int .i64 0] 30)).drew := ((Below.refl _ _).alloc (Nat.le_refl _) _).drew
                refine hK.out _ _ GA (fun hHeld => ?_)
                clear hK K
                have hN0 : PlAt (wr.alloc (.cells #[.int .i64 0, .int .i64 0, .int .i64 0, .int .i64 0, .int .i64 0, .int .i64 0, .int .i64 0, .bool false, .int .i64 0, .int .i64 0, .int .i64 0, .int .i64 0, .int .i64 0, .int .i64 0, .int .i64 0] 30)).drew wr.heap.size noPl := ⟨(PlAt.new wr noPl).obj⟩
                refine wpAnyH_ready (rs := [6]) (by kernel_rfl) (by simp) ?_
                refine AllReadyH.cons rfl (fun K hK => ?_) AllReadyH.nil
                go_simp
                refine (HST.out _ GA).mono ?_
                rintro e V1 ⟨rfl, bq⟩
                dsimp only
                have hN := hN0.keep bq
                replace GA := btrans GA bq
                have hR := Nat.le_refl wr.heap.size
                refine hK.out _ _ GA (fun hHeld => ?_)
                clear hK K bq hN0
                refine wpAnyH_ready (rs := [8]) (by kernel_rfl) (by simp) ?_
                refine AllReadyH.cons rfl (fun K hK => ?_) AllReadyH.nil
                refine wp_stP _ _ rfl _ _ q rfl rfl hN (fun V9 hN2 hF => ?_)
                have G9 := below_fr GA hF (Nat.le_refl _) (by intro k hk; replace hk : k = _ := hk; rw [hk]; exact hR)
                refine hK.out _ _ G9 (fun hHeld => ?_)
                refine wpAnyH_done (by kernel_rfl) (Only.on ?_) _
                clear hK K hHeld
                go_wp2
                go_meet
                exact ⟨_, _, rfl, rfl, hN2, G9, hR⟩
            case rest =>
            clear HST rO0 rO1 rO2 rO3 rO4 rl0 rl1 rl2 rl3 rl4
            obtain ⟨qb, V1, rfl, eU, Q, G, hqb⟩ := hcut
            replace eU := eU.symm
            subst eU
            have lO := O.lt
            have lP := P.lt
            replace O := O.keep G; replace P := P.keep G; replace HB := btrans HB G
            clear G
            have hrq := hid ((rtB_iff HRQ.out.w).2 HRQ.out)
            go_upto_region 8 with fail
            obtain ⟨cO0, cO1, cO2, cO3, cO4⟩ := O.cells
            go_wp2_with (refine wpList_ldP (by rfl) _ rfl _ _ rfl (by assumption) ?_)
            refine (walkRight W D H mp mn mc mf sp sn sc R HRR.out q HRQ.out.w true hrq.out _ (HM.out _ HB)).mono ?_; rintro e V2 ⟨rfl, bq⟩
            clear cO0 cO1 cO2 cO3 cO4
            replace O := O.keep bq; replace P := P.keep bq; replace Q := Q.keep bq; replace HB := btrans HB bq
            clear bq
            clear hrq
            go_upto_region 10 with fail
            go_cut [10] from 43 to 43 (fun v wx => ∃ (b : Nat) (U : World), v = .pointer (some ⟨b, 0, none⟩) ∧ wx = U ∧ PlAt U b q ∧ Below V2.heap.size V2 U ∧ V2.heap.size ≤ b)
            case first =>
              have hz : PlAt (V2.alloc (.cells #[.int .i64 0, .int .i64 0, .int .i64 0, .int .i64 0, .int .i64 0, .int .i64 0, .int .i64 0, .bool false, .int .i64 0, .int .i64 0, .int .i64 0, .int .i64 0, .int .i64 0, .int .i64 0, .int .i64 0] 30)) V2.heap.size noPl := PlAt.new V2 noPl
              go_wp2_with (first | (refine wpList_ldP (by rfl) _ rfl _ _ rfl (by assumption) ?_) | (refine wpList_stP (by rfl) _ _ rfl _ _ (q) rfl rfl (by assumption) (fun V9 hN hF => ?_)))
              go_meet
              exact ⟨_, _, rfl, rfl, hN, below_fr ((Below.refl _ _).alloc (Nat.le_refl _) _) hF (Nat.le_refl _) (by intro k hk; replace hk : k = _ := hk; rw [hk]; exact Nat.le_refl _), Nat.le_refl _⟩
            case rest =>
            obtain ⟨sb, V3, rfl, eU, S, G, hsb⟩ := hcut
            replace eU := eU.symm
            subst eU
            have lO := O.lt
            have lP := P.lt
            have lQ := Q.lt
            replace O := O.keep G; replace P := P.keep G; replace Q := Q.keep G; replace HB := btrans HB G
            clear G
            go_upto_region 11 with fail
            obtain ⟨cP0, cP1, cP2, cP3, cP4, cP5, cP6, cP7, cP8, cP9, cP10, cP11, cP12, cP13, cP14⟩ := P.cells
            obtain ⟨cS0, cS1, cS2, cS3, cS4, cS5, cS6, cS7, cS8, cS9, cS10, cS11, cS12, cS13, cS14⟩ := S.cells
            obtain ⟨tS0, tS1, tS2, tS3, tS4, tS5, tS6, tS7, tS8, tS9, tS10, tS11, tS12, tS13, tS14⟩ := S.thaw
            go_upto_region 12 with fail
            clear cP0 cP1 cP2 cP3 cP4 cP5 cP6 cP7 cP8 cP9 cP10 cP11 cP12 cP13 cP14 cS0 cS1 cS2 cS3 cS4 cS5 cS6 cS7 cS8 cS9 cS10 cS11 cS12 cS13 cS14 tS0 tS1 tS2 tS3 tS4 tS5 tS6 tS7 tS8 tS9 tS10 tS11 tS12 tS13 tS14
            replace O := O.fr (fr3 _ sb 1 2 3 (.int .i64 r.px) (.int .i64 r.py) (.int .i64 r.pz)) (show ¬ (mb = sb) by omega)
            replace P := P.fr (fr3 _ sb 1 2 3 (.int .i64 r.px) (.int .i64 r.py) (.int .i64 r.pz)) (show ¬ (mb + 1 = sb) by omega)
            replace Q := Q.fr (fr3 _ sb 1 2 3 (.int .i64 r.px) (.int .i64 r.py) (.int .i64 r.pz)) (show ¬ (qb = sb) by omega)
            replace S := S.pos r.px r.py r.pz
            replace HB := below_fr HB (fr3 _ sb 1 2 3 (.int .i64 r.px) (.int .i64 r.py) (.int .i64 r.pz)) (Nat.le_refl _) (by intro k hk; replace hk : k = sb := hk; omega)
            generalize ((V3.setCell ⟨sb, 1, none⟩ (.int .i64 r.px)).setCell ⟨sb, 2, none⟩ (.int .i64 r.py)).setCell ⟨sb, 3, none⟩ (.int .i64 r.pz) = V4 at *
            obtain ⟨cP0, cP1, cP2, cP3, cP4, cP5, cP6, cP7, cP8, cP9, cP10, cP11, cP12, cP13, cP14⟩ := P.cells
            obtain ⟨cS0, cS1, cS2, cS3, cS4, cS5, cS6, cS7, cS8, cS9, cS10, cS11, cS12, cS13, cS14⟩ := S.cells
            obtain ⟨tS0, tS1, tS2, tS3, tS4, tS5, tS6, tS7, tS8, tS9, tS10, tS11, tS12, tS13, tS14⟩ := S.thaw
            go_upto_region 13 with fail
            clear cP0 cP1 cP2 cP3 cP4 cP5 cP6 cP7 cP8 cP9 cP10 cP11 cP12 cP13 cP14 cS0 cS1 cS2 cS3 cS4 cS5 cS6 cS7 cS8 cS9 cS10 cS11 cS12 cS13 cS14 tS0 tS1 tS2 tS3 tS4 tS5 tS6 tS7 tS8 tS9 tS10 tS11 tS12 tS13 tS14
            replace O := O.fr (fr3 _ sb 4 5 6 (.int .i64 r.vx) (.int .i64 r.vy) (.int .i64 r.vz)) (show ¬ (mb = sb) by omega)
            replace P := P.fr (fr3 _ sb 4 5 6 (.int .i64 r.vx) (.int .i64 r.vy) (.int .i64 r.vz)) (show ¬ (mb + 1 = sb) by omega)
            replace Q := Q.fr (fr3 _ sb 4 5 6 (.int .i64 r.vx) (.int .i64 r.vy) (.int .i64 r.vz)) (show ¬ (qb = sb) by omega)
            replace S := S.vel r.vx r.vy r.vz
            replace HB := below_fr HB (fr3 _ sb 4 5 6 (.int .i64 r.vx) (.int .i64 r.vy) (.int .i64 r.vz)) (Nat.le_refl _) (by intro k hk; replace hk : k = sb := hk; omega)
            generalize ((V4.setCell ⟨sb, 4, none⟩ (.int .i64 r.vx)).setCell ⟨sb, 5, none⟩ (.int .i64 r.vy)).setCell ⟨sb, 6, none⟩ (.int .i64 r.vz) = V5 at *
            obtain ⟨cP0, cP1, cP2, cP3, cP4, cP5, cP6, cP7, cP8, cP9, cP10, cP11, cP12, cP13, cP14⟩ := P.cells
            obtain ⟨cS0, cS1, cS2, cS3, cS4, cS5, cS6, cS7, cS8, cS9, cS10, cS11, cS12, cS13, cS14⟩ := S.cells
            obtain ⟨tS0, tS1, tS2, tS3, tS4, tS5, tS6, tS7, tS8, tS9, tS10, tS11, tS12, tS13, tS14⟩ := S.thaw
            go_upto_region 14 with fail
            clear cP0 cP1 cP2 cP3 cP4 cP5 cP6 cP7 cP8 cP9 cP10 cP11 cP12 cP13 cP14 cS0 cS1 cS2 cS3 cS4 cS5 cS6 cS7 cS8 cS9 cS10 cS11 cS12 cS13 cS14 tS0 tS1 tS2 tS3 tS4 tS5 tS6 tS7 tS8 tS9 tS10 tS11 tS12 tS13 tS14
            replace O := O.fr (fr1 _ sb 7 (.bool r.gr)) (show ¬ (mb = sb) by omega)
            replace P := P.fr (fr1 _ sb 7 (.bool r.gr)) (show ¬ (mb + 1 = sb) by omega)
            replace Q := Q.fr (fr1 _ sb 7 (.bool r.gr)) (show ¬ (qb = sb) by omega)
            replace S := S.s7 r.gr
            replace HB := below_fr HB (fr1 _ sb 7 (.bool r.gr)) (Nat.le_refl _) (by intro k hk; replace hk : k = sb := hk; omega)
            generalize V5.setCell ⟨sb, 7, none⟩ (.bool r.gr) = V6 at *
            replace S : PlAt V6 sb r := by have := hsame.out.with; rw [← this]; exact S
            clear hsame
            by_cases hd : r.de > 0
            · skip
              have hd0 : 0 < r.de := hd
              obtain rfl := hdead.out hd
              clear hdead
              obtain ⟨cP0, cP1, cP2, cP3, cP4, cP5, cP6, cP7, cP8, cP9, cP10, cP11, cP12, cP13, cP14⟩ := P.cells
              go_upto_region 16 with (first | (refine wpList_ldP (by rfl) _ rfl _ _ rfl (by assumption) ?_) | (refine wpList_neP (by rfl) _ _ _ rfl _ rfl rfl ?_))
              clear cP0 cP1 cP2 cP3 cP4 cP5 cP6 cP7 cP8 cP9 cP10 cP11 cP12 cP13 cP14
              go_wp2_with (first | (refine wpList_ldP (by rfl) _ rfl _ _ rfl (by assumption) ?_) | (refine wpList_stP (by rfl) _ _ rfl _ _ (q) rfl rfl (by assumption) (fun V7 hN hF => ?_)))
              replace O := O.fr hF (show ¬ (mb = mb + 1) by omega)
              replace P := hN
              replace Q := Q.fr hF (show ¬ (qb = mb + 1) by omega)
              replace S := S.fr hF (show ¬ (sb = mb + 1) by omega)
              replace HB := below_fr HB hF (Nat.le_refl _) (by intro k hk; replace hk : k = mb + 1 := hk; omega)
              clear hN hF
              exact ⟨⟨j + 1, q, _, by go_num, rfl, by omega, by omega, HRQ, O, P, HB⟩, by simp [intOf]; omega⟩
            · skip
              have hd0 : ¬ 0 < r.de := hd
              clear hdead
              obtain ⟨cP0, cP1, cP2, cP3, cP4, cP5, cP6, cP7, cP8, cP9, cP10, cP11, cP12, cP13, cP14⟩ := P.cells
              go_upto_region 16 with (first | (refine wpList_ldP (by rfl) _ rfl _ _ rfl (by assumption) ?_) | (refine wpList_neP (by rfl) _ _ _ rfl _ rfl rfl ?_))
              clear cP0 cP1 cP2 cP3 cP4 cP5 cP6 cP7 cP8 cP9 cP10 cP11 cP12 cP13 cP14
              go_wp2_with (first | (refine wpList_ldP (by rfl) _ rfl _ _ rfl (by assumption) ?_) | (refine wpList_stP (by rfl) _ _ rfl _ _ (q) rfl rfl (by assumption) (fun V7 hN hF => ?_)))
              replace O := O.fr hF (show ¬ (mb = mb + 1) by omega)
              replace P := hN
              replace Q := Q.fr hF (show ¬ (qb = mb + 1) by omega)
              replace S := S.fr hF (show ¬ (sb = mb + 1) by omega)
              replace HB := below_fr HB hF (Nat.le_refl _) (by intro k hk; replace hk : k = mb + 1 := hk; omega)
              clear hN hF
              exact ⟨⟨j + 1, q, _, by go_num, rfl, by omega, by omega, HRQ, O, P, HB⟩, by simp [intOf]; omega⟩
          · skip
            have h1i : (j : Int) < (ln : Int) := by omega
            have h2i : ¬ (j : Int) < 20 := by omega
            go_wp2
            go_ret
            exact ⟨rfl, HB⟩
        · skip
          have h1i : ¬ (j : Int) < (ln : Int) := by omega
          go_wp2
          go_ret
          exact ⟨rfl, HB⟩
end Go.Proofs.Ytjjdclckkhddbaa
