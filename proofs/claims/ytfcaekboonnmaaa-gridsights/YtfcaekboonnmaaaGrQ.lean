/- Layer 9 (grid): the contract of the document's own answer Right. -/
import Derived.Test.YtfcaekboonnmaaaGrP
import Derived.Test.YtfcaekboonnmaaaGwJ
namespace Go.Proofs.Ytfcaekboonnmaaa
open Go.ChangeShapes Go.WideShapes Go.ChangeAt Go.RowKit Go.Joins
set_option linter.unusedVariables false
set_option linter.unusedSimpArgs false
attribute [local go_sem ↓] Go.wp_at_zero Go.wp_at_succ

set_option maxHeartbeats 2000000 in
theorem refRight (W D H : Int) (mp : Option Addr) (mn mc : Nat) (mf : Nat → Bool) (sp : Option Addr) (sn sc : Nat) (X Y Z : Nat → Int) (hX : ∀ i, I64 (X i) ∧ I64 (Y i) ∧ I64 (Z i)) (w : World) (hm : Arg w mp mn mc fun i => .bool (mf i)) (hv : ArgW w sp sn sc X Y Z) (r : Bool) (hr : r = true ↔ (mpOf W D H mn mf).RightP sn X Y Z) :
    Calls Try.prog 18 #[.agg #[.int .i64 W, .int .i64 D, .int .i64 H, .slice mp mn mc, .slice sp sn sc]] w fun e w' => e = .returned (.int .i64 (if r then 0 else 1)) ∧ Below w.heap.size w w' := by
  have hsz := fun W' => refSized W D H mp mn mc mf sp sn sc W'
  have hle := hv.le; have hmost := hv.most
  unfold maxLen at hmost
  by_cases hs : (mpOf W D H mn mf).Sized
  · rw [decide_eq_true hs] at hsz
    by_cases h0 : sn = 0
    · have hF : r = false := by
        cases r with
        | false => rfl
        | true => exact absurd (hr.1 rfl) (by rintro ⟨q0, q1, q2, q3⟩; exact q1 h0)
      subst hF
      clear hr
      subst h0
      go_enter Try.func18, Try.ntmps18
      go_wp2_with fail
      refine (hsz _).mono ?_; rintro e W1 ⟨rfl, B1⟩
      have M1 := (MapAt.new w W D H (.slice mp mn mc) (.slice sp 0 sc) 25).keep B1
      have B1' : Below w.heap.size w W1 := ((Below.refl _ _).alloc (Nat.le_refl _) _).trans (B1.mono (by simp))
      obtain ⟨ml, m0, m1, m2, m3, m4⟩ := M1
      go_wp2
      go_ret
      exact ⟨rfl, B1'⟩
    · have h1' : ¬ ((sn : Int) < 1) := by omega
      by_cases h64 : sn ≤ 64
      · have HR := hid hr
        have HMA := hid hm
        have HV := hid hv
        clear hr hm hv
        go_enter Try.func18, Try.ntmps18
        go_wp2_with fail
        refine (hsz _).mono ?_; rintro e W1 ⟨rfl, B1⟩
        have M1 := (MapAt.new w W D H (.slice mp mn mc) (.slice sp sn sc) 25).keep B1
        have B1' : Below w.heap.size w W1 := ((Below.refl _ _).alloc (Nat.le_refl _) _).trans (B1.mono (by simp))
        have HM := hid M1
        have HB := hid B1'
        obtain ⟨ml, m0, m1, m2, m3, m4⟩ := M1
        clear B1 B1' hsz
        have hsn : (sn : Int) ≤ 64 := by omega
        go_wp2
        obtain ⟨W2, hW2⟩ : ∃ W2, W1.alloc (.cells #[.int .i64 26214, .int .i64 26214, .int .i64 58982] 27) = W2 := ⟨_, rfl⟩
        obtain ⟨B1, hB1⟩ : ∃ b, W1.heap.size = b := ⟨_, rfl⟩
        obtain ⟨B0, hB0⟩ : ∃ b, w.heap.size = b := ⟨_, rfl⟩
        have hbel : Below W1.heap.size W1 W2 := hW2 ▸ (Below.refl _ _).alloc (Nat.le_refl _) _
        have RB : B3 W2 B1 27 26214 26214 58982 := by rw [← hW2, ← hB1]; exact B3.new _ _ _ _ _
        have M2 := HM.out.keep hbel
        have HB2 := hid (btrans HB.out hbel)
        rw [hB0] at M2
        simp only [hW2, hB1, hB0]
        have HM2 := hid M2
        have HRB := hid RB
        clear ml m0 m1 m2 m3 m4 hbel hW2 M2 RB HM
        go_loopw [5] (fun v wr => ∃ i : Nat, v = .int .i64 i ∧ i ≤ sn ∧ Hid (∀ j, j < i → (mpOf W D H mn mf).Room (X j) (Y j) (Z j)) ∧ Below W2.heap.size W2 wr) (fun v _ => sn - (intOf v).toNat)
        case atStart => exact ⟨0, rfl, Nat.zero_le _, hid (fun j e => by omega), Below.refl _ _⟩
        case round =>
          obtain ⟨i, rfl, hi, hroom, hbr⟩ := hrel
          obtain ⟨_, m0, m1, m2, m3, m4⟩ := HM2.out.keep hbr
          by_cases hlt : i < sn
          · obtain ⟨sb, so, rfl, hsb, hsc⟩ := (HV.out.keep (btrans HB2.out hbr)).at hlt
            obtain ⟨x, hx⟩ : ∃ x, X i = x := ⟨_, rfl⟩
            obtain ⟨y, hy⟩ : ∃ x, Y i = x := ⟨_, rfl⟩
            obtain ⟨z, hz⟩ : ∃ x, Z i = x := ⟨_, rfl⟩
            obtain ⟨s0, s1, s2⟩ := hsc i hlt
            rw [hx] at s0
            rw [hy] at s1
            rw [hz] at s2
            obtain ⟨ix, iy, iz⟩ := hX i
            rw [hx] at ix
            rw [hy] at iy
            rw [hz] at iz
            obtain ⟨s, hsr⟩ := boolOf ((mpOf W D H mn mf).Room x y z)
            have HCL := hid (fun V (hV : Below W2.heap.size W2 V) => refClear W D H mp mn mc mf (some ⟨sb, so, none⟩) sn sc _ _ _ _ _ _ (sat_i64 (x - 26214)) (sat_i64 (y - 26214)) (sat_i64 (z - 58982)) (sat_i64 (x + 26214)) (sat_i64 (y + 26214)) (sat_i64 (z + 58982)) V (HMA.out.keep (btrans HB2.out hV)) s hsr)
            have HMI := hid (fun V => refVecMinus x y z 26214 26214 58982 ix iy iz ⟨by omega, by omega⟩ ⟨by omega, by omega⟩ ⟨by omega, by omega⟩ V)
            have HPL := hid (fun V => refVecPlus x y z 26214 26214 58982 ix iy iz ⟨by omega, by omega⟩ ⟨by omega, by omega⟩ ⟨by omega, by omega⟩ V)
            obtain ⟨lx, elx⟩ : ∃ v, sat (x - 26214) = v := ⟨_, rfl⟩
            obtain ⟨ly, ely⟩ : ∃ v, sat (y - 26214) = v := ⟨_, rfl⟩
            obtain ⟨lz, elz⟩ : ∃ v, sat (z - 58982) = v := ⟨_, rfl⟩
            obtain ⟨ux, eux⟩ : ∃ v, sat (x + 26214) = v := ⟨_, rfl⟩
            obtain ⟨uy, euy⟩ : ∃ v, sat (y + 26214) = v := ⟨_, rfl⟩
            obtain ⟨uz, euz⟩ : ∃ v, sat (z + 58982) = v := ⟨_, rfl⟩
            rw [elx, ely, elz] at HMI
            rw [eux, euy, euz] at HPL
            rw [elx, ely, elz, eux, euy, euz] at HCL
            clear hsc elx ely elz eux euy euz
            have rm0 := stays m0; have rm1 := stays m1; have rm2 := stays m2; have rm3 := stays m3; have rm4 := stays m4
            have rs0 := stays s0; have rs1 := stays s1; have rs2 := stays s2
            obtain ⟨k0, k1, k2⟩ := (HRB.out.keep hbr).cells
            have rk0 := stays k0; have rk1 := stays k1; have rk2 := stays k2
            clear s0 s1 s2 k0 k1 k2
            go_upto_region 8 with fail
            clear m0 m1 m2 m3 m4
            go_cut [6] from 33 to 39 (fun c wx => ∃ (b : Nat) (V : World), c = .pointer (some ⟨b, 0, none⟩) ∧ wx = V ∧ B3 V b 27 lx ly lz ∧ Below wr.heap.size wr V)
            case first =>
              have D1 : Below wr.heap.size wr (wr.drewN 1) := below_drewN wr 1
              refine region_held (fun w' => Below wr.heap.size wr w') 9 rfl (by kernel_rfl) D1 ?_
              intro hHeld
              refine takeO 0 (some 33) (v := ?v1) rfl rfl (by kernel_rfl) (by kernel_rfl) (by kernel_rfl) (Or.inl ⟨by rfl, ?y1⟩) hHeld ?r1
              case y1 => (intro w' hSw; (try dsimp only at hSw); go_simp; try with_reducible rfl)
              try simp only [Act.put, List.setIfInBounds_toArray, List.set_cons_zero, List.set_cons_succ]
              refine takeO 1 (some 34) (v := ?v2) rfl rfl (by kernel_rfl) (by kernel_rfl) (by kernel_rfl) (Or.inl ⟨by rfl, ?y2⟩) hHeld ?r2
              case y2 => (intro w' hSw; (try dsimp only at hSw); go_simp; try with_reducible rfl)
              try simp only [Act.put, List.setIfInBounds_toArray, List.set_cons_zero, List.set_cons_succ]
              refine takeO 2 (some 35) (v := ?v3) rfl rfl (by kernel_rfl) (by kernel_rfl) (by kernel_rfl) (Or.inl ⟨by rfl, ?y3⟩) hHeld ?r3
              case y3 => (intro w' hSw; (try dsimp only at hSw); go_simp; try with_reducible rfl)
              try simp only [Act.put, List.setIfInBounds_toArray, List.set_cons_zero, List.set_cons_succ]
              refine takeO 3 (some 36) (v := ?v4) rfl rfl (by kernel_rfl) (by kernel_rfl) (by kernel_rfl) (Or.inl ⟨by rfl, ?y4⟩) hHeld ?r4
              case y4 => (intro w' hSw; (try dsimp only at hSw); go_simp; try with_reducible rfl)
              try simp only [Act.put, List.setIfInBounds_toArray, List.set_cons_zero, List.set_cons_succ]
              refine takeO 4 (some 37) (v := ?v5) rfl rfl (by kernel_rfl) (by kernel_rfl) (by kernel_rfl) (Or.inl ⟨by rfl, ?y5⟩) hHeld ?r5
              case y5 => (intro w' hSw; (try dsimp only at hSw); go_simp; try with_reducible rfl)
              try simp only [Act.put, List.setIfInBounds_toArray, List.set_cons_zero, List.set_cons_succ]
              refine takeO 5 (some 38) (v := ?v6) rfl rfl (by kernel_rfl) (by kernel_rfl) (by kernel_rfl) (Or.inl ⟨by rfl, ?y6⟩) hHeld ?r6
              case y6 => (intro w' hSw; (try dsimp only at hSw); go_simp; try with_reducible rfl)
              try simp only [Act.put, List.setIfInBounds_toArray, List.set_cons_zero, List.set_cons_succ]
              refine wpAnyH_ready (rs := [6, 7]) (by kernel_rfl) (by simp) ?_
              refine AllReadyH.cons rfl (fun K hK => ?_) (AllReadyH.cons rfl (fun K hK => ?_) AllReadyH.nil)
              · go_simp
                refine (HMI.out _).mono ?_
                rintro e V1 ⟨rfl, q1⟩
                dsimp only
                have G1 : Below wr.heap.size wr V1 := Below.trans D1 q1
                refine hK.out _ _ G1 (fun hHeld => ?_)
                clear hK K q1
                refine wpAnyH_ready (rs := [7]) (by kernel_rfl) (by simp) ?_
                refine AllReadyH.cons rfl (fun K hK => ?_) AllReadyH.nil
                go_simp
                have G2 : Below wr.heap.size wr (V1.alloc (.cells #[.int .i64 0, .int .i64 0, .int .i64 0] 27)) := G1.alloc G1.size _
                refine hK.out _ _ G2 (fun hHeld => ?_)
                clear hK K
                have N1 := B3.new V1 27 0 0 0
                obtain ⟨R, hR⟩ : ∃ b, V1.heap.size = b := ⟨_, rfl⟩
                have hRw : wr.heap.size ≤ R := hR ▸ G1.size
                rw [hR] at N1
                simp only [hR]
                obtain ⟨V2, hV2⟩ : ∃ V, V1.alloc (.cells #[.int .i64 0, .int .i64 0, .int .i64 0] 27) = V := ⟨_, rfl⟩
                simp only [hV2] at N1 G2 hHeld ⊢
                clear hV2 hR
                refine wpAnyH_ready (rs := [8]) (by kernel_rfl) (by simp) ?_
                refine AllReadyH.cons rfl (fun K hK => ?_) AllReadyH.nil
                obtain ⟨f0, f1, f2⟩ := N1.thaw
                obtain ⟨c0, c1, c2⟩ := N1.cells
                go_simp
                refine hK.out _ _ (below_set3 G2 hRw _ _ _) (fun hHeld => ?_)
                refine wpAnyH_done (by kernel_rfl) (Only.on ?_) _
                clear hK K hHeld
                go_wp2
                go_meet
                exact ⟨R, _, rfl, rfl, N1.set _ _ _, below_set3 G2 hRw _ _ _⟩
              · go_simp
                have G1 : Below wr.heap.size wr (wr.alloc (.cells #[.int .i64 0, .int .i64 0, .int .i64 0] 27)).drew := ((Below.refl _ _).alloc (Nat.le_refl _) _).drew
                refine hK.out _ _ G1 (fun hHeld => ?_)
                clear hK K
                have N1 : B3 (wr.alloc (.cells #[.int .i64 0, .int .i64 0, .int .i64 0] 27)).drew wr.heap.size 27 0 0 0 := ⟨(B3.new wr 27 0 0 0).obj⟩
                obtain ⟨V1, hV1⟩ : ∃ V, (wr.alloc (.cells #[.int .i64 0, .int .i64 0, .int .i64 0] 27)).drew = V := ⟨_, rfl⟩
                have hRw : wr.heap.size ≤ wr.heap.size := Nat.le_refl _
                simp only [hV1] at N1 G1 hHeld ⊢
                clear hV1
                refine wpAnyH_ready (rs := [6]) (by kernel_rfl) (by simp) ?_
                refine AllReadyH.cons rfl (fun K hK => ?_) AllReadyH.nil
                go_simp
                refine (HMI.out _).mono ?_
                rintro e V2 ⟨rfl, q1⟩
                dsimp only
                have G2 := btrans G1 q1
                refine hK.out _ _ G2 (fun hHeld => ?_)
                have N2 := N1.keep q1
                clear hK K q1 N1 G1
                refine wpAnyH_ready (rs := [8]) (by kernel_rfl) (by simp) ?_
                refine AllReadyH.cons rfl (fun K hK => ?_) AllReadyH.nil
                obtain ⟨f0, f1, f2⟩ := N2.thaw
                obtain ⟨c0, c1, c2⟩ := N2.cells
                go_simp
                refine hK.out _ _ (below_set3 G2 hRw _ _ _) (fun hHeld => ?_)
                refine wpAnyH_done (by kernel_rfl) (Only.on ?_) _
                clear hK K hHeld
                go_wp2
                go_meet
                exact ⟨_, _, rfl, rfl, N2.set _ _ _, below_set3 G2 hRw _ _ _⟩
            case rest =>
            obtain ⟨bl, U1, rfl, eU, L1, BL⟩ := hcut
            have eU' := eU.symm
            subst eU'
            have m0 := rm0 _ BL; have m1 := rm1 _ BL; have m2 := rm2 _ BL; have m3 := rm3 _ BL; have m4 := rm4 _ BL
            have s0 := rs0 _ BL; have s1 := rs1 _ BL; have s2 := rs2 _ BL
            have k0 := rk0 _ BL; have k1 := rk1 _ BL; have k2 := rk2 _ BL
            clear rm0 rm1 rm2 rm3 rm4 rs0 rs1 rs2 rk0 rk1 rk2
            have rm0 := stays m0; have rm1 := stays m1; have rm2 := stays m2; have rm3 := stays m3; have rm4 := stays m4
            have rs0 := stays s0; have rs1 := stays s1; have rs2 := stays s2
            have rk0 := stays k0; have rk1 := stays k1; have rk2 := stays k2
            clear m0 m1 m2 m3 m4 s0 s1 s2 k0 k1 k2
            have HL1 := hid L1
            have HBL := hid (btrans hbr BL)
            clear L1 BL
            go_upto_region 9 with fail
            go_cut [7] from 40 to 46 (fun c wx => ∃ (b : Nat) (V : World), c = .pointer (some ⟨b, 0, none⟩) ∧ wx = V ∧ B3 V b 27 ux uy uz ∧ Below U1.heap.size U1 V)
            case first =>
              have D1 : Below U1.heap.size U1 (U1.drewN 1) := below_drewN U1 1
              refine region_held (fun w' => Below U1.heap.size U1 w') 9 rfl (by kernel_rfl) D1 ?_
              intro hHeld
              refine takeO 0 (some 40) (v := ?v7) rfl rfl (by kernel_rfl) (by kernel_rfl) (by kernel_rfl) (Or.inl ⟨by rfl, ?y7⟩) hHeld ?r7
              case y7 => (intro w' hSw; (try dsimp only at hSw); go_simp; try with_reducible rfl)
              try simp only [Act.put, List.setIfInBounds_toArray, List.set_cons_zero, List.set_cons_succ]
              refine takeO 1 (some 41) (v := ?v8) rfl rfl (by kernel_rfl) (by kernel_rfl) (by kernel_rfl) (Or.inl ⟨by rfl, ?y8⟩) hHeld ?r8
              case y8 => (intro w' hSw; (try dsimp only at hSw); go_simp; try with_reducible rfl)
              try simp only [Act.put, List.setIfInBounds_toArray, List.set_cons_zero, List.set_cons_succ]
              refine takeO 2 (some 42) (v := ?v9) rfl rfl (by kernel_rfl) (by kernel_rfl) (by kernel_rfl) (Or.inl ⟨by rfl, ?y9⟩) hHeld ?r9
              case y9 => (intro w' hSw; (try dsimp only at hSw); go_simp; try with_reducible rfl)
              try simp only [Act.put, List.setIfInBounds_toArray, List.set_cons_zero, List.set_cons_succ]
              refine takeO 3 (some 43) (v := ?v10) rfl rfl (by kernel_rfl) (by kernel_rfl) (by kernel_rfl) (Or.inl ⟨by rfl, ?y10⟩) hHeld ?r10
              case y10 => (intro w' hSw; (try dsimp only at hSw); go_simp; try with_reducible rfl)
              try simp only [Act.put, List.setIfInBounds_toArray, List.set_cons_zero, List.set_cons_succ]
              refine takeO 4 (some 44) (v := ?v11) rfl rfl (by kernel_rfl) (by kernel_rfl) (by kernel_rfl) (Or.inl ⟨by rfl, ?y11⟩) hHeld ?r11
              case y11 => (intro w' hSw; (try dsimp only at hSw); go_simp; try with_reducible rfl)
              try simp only [Act.put, List.setIfInBounds_toArray, List.set_cons_zero, List.set_cons_succ]
              refine takeO 5 (some 45) (v := ?v12) rfl rfl (by kernel_rfl) (by kernel_rfl) (by kernel_rfl) (Or.inl ⟨by rfl, ?y12⟩) hHeld ?r12
              case y12 => (intro w' hSw; (try dsimp only at hSw); go_simp; try with_reducible rfl)
              try simp only [Act.put, List.setIfInBounds_toArray, List.set_cons_zero, List.set_cons_succ]
              refine wpAnyH_ready (rs := [6, 7]) (by kernel_rfl) (by simp) ?_
              refine AllReadyH.cons rfl (fun K hK => ?_) (AllReadyH.cons rfl (fun K hK => ?_) AllReadyH.nil)
              · go_simp
                refine (HPL.out _).mono ?_
                rintro e V1 ⟨rfl, q1⟩
                dsimp only
                have G1 : Below U1.heap.size U1 V1 := Below.trans D1 q1
                refine hK.out _ _ G1 (fun hHeld => ?_)
                clear hK K q1
                refine wpAnyH_ready (rs := [7]) (by kernel_rfl) (by simp) ?_
                refine AllReadyH.cons rfl (fun K hK => ?_) AllReadyH.nil
                go_simp
                have G2 : Below U1.heap.size U1 (V1.alloc (.cells #[.int .i64 0, .int .i64 0, .int .i64 0] 27)) := G1.alloc G1.size _
                refine hK.out _ _ G2 (fun hHeld => ?_)
                clear hK K
                have N1 := B3.new V1 27 0 0 0
                obtain ⟨R, hR⟩ : ∃ b, V1.heap.size = b := ⟨_, rfl⟩
                have hRw : U1.heap.size ≤ R := hR ▸ G1.size
                rw [hR] at N1
                simp only [hR]
                obtain ⟨V2, hV2⟩ : ∃ V, V1.alloc (.cells #[.int .i64 0, .int .i64 0, .int .i64 0] 27) = V := ⟨_, rfl⟩
                simp only [hV2] at N1 G2 hHeld ⊢
                clear hV2 hR
                refine wpAnyH_ready (rs := [8]) (by kernel_rfl) (by simp) ?_
                refine AllReadyH.cons rfl (fun K hK => ?_) AllReadyH.nil
                obtain ⟨f0, f1, f2⟩ := N1.thaw
                obtain ⟨c0, c1, c2⟩ := N1.cells
                go_simp
                refine hK.out _ _ (below_set3 G2 hRw _ _ _) (fun hHeld => ?_)
                refine wpAnyH_done (by kernel_rfl) (Only.on ?_) _
                clear hK K hHeld
                go_wp2
                go_meet
                exact ⟨R, _, rfl, rfl, N1.set _ _ _, below_set3 G2 hRw _ _ _⟩
              · go_simp
                have G1 : Below U1.heap.size U1 (U1.alloc (.cells #[.int .i64 0, .int .i64 0, .int .i64 0] 27)).drew := ((Below.refl _ _).alloc (Nat.le_refl _) _).drew
                refine hK.out _ _ G1 (fun hHeld => ?_)
                clear hK K
                have N1 : B3 (U1.alloc (.cells #[.int .i64 0, .int .i64 0, .int .i64 0] 27)).drew U1.heap.size 27 0 0 0 := ⟨(B3.new U1 27 0 0 0).obj⟩
                obtain ⟨V1, hV1⟩ : ∃ V, (U1.alloc (.cells #[.int .i64 0, .int .i64 0, .int .i64 0] 27)).drew = V := ⟨_, rfl⟩
                have hRw : U1.heap.size ≤ U1.heap.size := Nat.le_refl _
                simp only [hV1] at N1 G1 hHeld ⊢
                clear hV1
                refine wpAnyH_ready (rs := [6]) (by kernel_rfl) (by simp) ?_
                refine AllReadyH.cons rfl (fun K hK => ?_) AllReadyH.nil
                go_simp
                refine (HPL.out _).mono ?_
                rintro e V2 ⟨rfl, q1⟩
                dsimp only
                have G2 := btrans G1 q1
                refine hK.out _ _ G2 (fun hHeld => ?_)
                have N2 := N1.keep q1
                clear hK K q1 N1 G1
                refine wpAnyH_ready (rs := [8]) (by kernel_rfl) (by simp) ?_
                refine AllReadyH.cons rfl (fun K hK => ?_) AllReadyH.nil
                obtain ⟨f0, f1, f2⟩ := N2.thaw
                obtain ⟨c0, c1, c2⟩ := N2.cells
                go_simp
                refine hK.out _ _ (below_set3 G2 hRw _ _ _) (fun hHeld => ?_)
                refine wpAnyH_done (by kernel_rfl) (Only.on ?_) _
                clear hK K hHeld
                go_wp2
                go_meet
                exact ⟨_, _, rfl, rfl, N2.set _ _ _, below_set3 G2 hRw _ _ _⟩
            case rest =>
            obtain ⟨bu, U2, rfl, eU2, L2, BU⟩ := hcut
            have eU2' := eU2.symm
            subst eU2'
            have m0 := rm0 _ BU; have m1 := rm1 _ BU; have m2 := rm2 _ BU; have m3 := rm3 _ BU; have m4 := rm4 _ BU
            clear rm0 rm1 rm2 rm3 rm4 rs0 rs1 rs2 rk0 rk1 rk2
            obtain ⟨l0, l1, l2⟩ := (HL1.out.keep BU).cells
            obtain ⟨u0, u1, u2⟩ := L2.cells
            have B2 := btrans HBL.out BU
            clear L2 BU HL1 HBL
            go_wp2_with fail
            refine (HCL.out _ B2).mono ?_; rintro e U3 ⟨rfl, q3⟩
            have hB4 := btrans B2 q3
            clear HCL HMI HPL m0 m1 m2 m3 m4 l0 l1 l2 u0 u1 u2 B2 q3
            cases s with
            | true =>
              have hnew : Hid (∀ j, j < i + 1 → (mpOf W D H mn mf).Room (X j) (Y j) (Z j)) := hid (fun j hj => by
                by_cases e : j = i
                · rw [e, hx, hy, hz]; exact hsr.1 rfl
                · exact hroom.out j (by omega))
              clear hsr hx hy hz
              go_wp2
              exact ⟨⟨i + 1, by go_num, by omega, hnew, hB4⟩, by simp [intOf]; omega⟩
            | false =>
              have hF : r = false := by
                cases r with
                | false => rfl
                | true =>
                  have := (HR.out.1 rfl).2.2.2 i hlt
                  rw [hx, hy, hz] at this
                  exact absurd (hsr.2 this) (by decide)
              subst hF
              clear hsr hx hy hz
              go_wp2
              go_ret
              exact ⟨rfl, by rw [hB0] at HB2; exact (HB2.out.trans (hB4.mono (by have := HRB.out.lt; have := HM2.out.lt; omega)))⟩
          · obtain rfl : i = sn := by omega
            have hT : r = true := HR.out.2 ⟨hs, h0, h64, hroom.out⟩
            subst hT
            go_wp2
            go_ret
            exact ⟨rfl, by rw [hB0] at HB2; exact (HB2.out.trans (hbr.mono (by have := HRB.out.lt; have := HM2.out.lt; omega)))⟩
      · have hF : r = false := by
          cases r with
          | false => rfl
          | true => exact absurd (hr.1 rfl) (by rintro ⟨q0, q1, q2, q3⟩; exact h64 q2)
        subst hF
        clear hr
        have h64' : (64 : Int) < (sn : Int) := by omega
        go_enter Try.func18, Try.ntmps18
        go_wp2_with fail
        refine (hsz _).mono ?_; rintro e W1 ⟨rfl, B1⟩
        have M1 := (MapAt.new w W D H (.slice mp mn mc) (.slice sp sn sc) 25).keep B1
        have B1' : Below w.heap.size w W1 := ((Below.refl _ _).alloc (Nat.le_refl _) _).trans (B1.mono (by simp))
        obtain ⟨ml, m0, m1, m2, m3, m4⟩ := M1
        go_wp2
        go_ret
        exact ⟨rfl, B1'⟩
  · rw [decide_eq_false hs] at hsz
    have hF : r = false := by
      cases r with
      | false => rfl
      | true => exact absurd (hr.1 rfl) (by rintro ⟨q0, q1, q2, q3⟩; exact hs q0)
    subst hF
    clear hr
    go_enter Try.func18, Try.ntmps18
    go_wp2_with fail
    refine (hsz _).mono ?_; rintro e W1 ⟨rfl, B1⟩
    have M1 := (MapAt.new w W D H (.slice mp mn mc) (.slice sp sn sc) 25).keep B1
    have B1' : Below w.heap.size w W1 := ((Below.refl _ _).alloc (Nat.le_refl _) _).trans (B1.mono (by simp))
    obtain ⟨ml, m0, m1, m2, m3, m4⟩ := M1
    go_wp2
    go_ret
    exact ⟨rfl, B1'⟩
end Go.Proofs.Ytfcaekboonnmaaa
