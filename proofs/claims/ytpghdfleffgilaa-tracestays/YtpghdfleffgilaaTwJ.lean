/- Layer 10 (trace): the walk of the law TraceStays. -/
import Derived.Test.YtpghdfleffgilaaTwI
namespace Go.Proofs.Ytpghdfleffgilaa
open Go.RowKit
set_option linter.unusedVariables false
set_option linter.unusedSimpArgs false
attribute [local go_sem ↓] Go.wp_at_zero Go.wp_at_succ

set_option maxRecDepth 100000 in
set_option maxHeartbeats 4000000 in
theorem traceStays_walk (W D H : Int) (mp : Option Addr) (mn mc : Nat) (mf : Nat → Bool) (sp : Option Addr) (sn sc : Nat) (X Y Z : Nat → Int) (a1 a2 a3 : Int) (lp : Option Addr) (ln lc : Nat) (XF YF ZF : Nat → Int) (w : World) (hW : I64 W) (hD : I64 D) (hH : I64 H) (hm : Arg w mp mn mc fun i => .bool (mf i)) (hv : ArgW w sp sn sc X Y Z) (hX : ∀ i, I64 (X i) ∧ I64 (Y i) ∧ I64 (Z i)) (ha1 : I64 a1) (ha2 : I64 a2) (ha3 : I64 a3) (hl : ArgW w lp ln lc XF YF ZF) (hlz : ∀ i, I64 (XF i) ∧ I64 (YF i) ∧ I64 (ZF i)) :
    Calls Try.prog 4 #[.agg #[.int .i64 W, .int .i64 D, .int .i64 H, .slice mp mn mc, .slice sp sn sc], .agg #[.int .i64 a1, .int .i64 a2, .int .i64 a3], .slice lp ln lc] w fun e w' => e = .returned (.bool true) ∧ Below w.heap.size w w' := by
  have HL := hid hl; have HZ := hid hlz
  have lle := hl.le; have lmost := hl.most
  unfold maxLen at lmost
  clear hl hlz
  have hle := hm.le; have hmost := hm.most
  obtain ⟨N, hN⟩ : ∃ N, min mn 32768 = N := ⟨_, rfl⟩
  have hsm := fun V => trSmall W D H mp mn mc mf sp sn sc hle hmost V
  rw [hN] at hsm
  have HM0 := hid (hm.cut (show N ≤ mn by omega))
  have hN1 : N ≤ 32768 := by omega
  have hsh := trShown
  unfold maxLen at hmost
  clear hm hN
  have B0 : Below w.heap.size w ((w.alloc (.cells #[.int .i64 W, .int .i64 D, .int .i64 H, .slice mp mn mc, .slice sp sn sc] 25)).alloc (.cells #[.int .i64 a1, .int .i64 a2, .int .i64 a3] 27)) := ((Below.refl _ _).alloc (Nat.le_refl _) _).alloc (by simp) _
  have O0 : O5 ((w.alloc (.cells #[.int .i64 W, .int .i64 D, .int .i64 H, .slice mp mn mc, .slice sp sn sc] 25)).alloc (.cells #[.int .i64 a1, .int .i64 a2, .int .i64 a3] 27)) (w.heap.size) (.int .i64 W) (.int .i64 D) (.int .i64 H) (.slice mp mn mc) (.slice sp sn sc) := (O5.new _ _ _ _ _ _).alloc _
  have a0 : O3 ((w.alloc (.cells #[.int .i64 W, .int .i64 D, .int .i64 H, .slice mp mn mc, .slice sp sn sc] 25)).alloc (.cells #[.int .i64 a1, .int .i64 a2, .int .i64 a3] 27)) (w.heap.size + 1) 27 (.int .i64 a1) (.int .i64 a2) (.int .i64 a3) := O3.new' _ _ _ _ _ (by simp)
  go_enter Try.func4, Try.ntmps4
  go_wp2_with fail
  refine (hsh _).mono ?_; rintro e V1 ⟨rfl, q1⟩
  have B1 := B0.trans (q1.mono B0.size)
  have O1 := O0.keep q1
  have a00 := a0.keep q1
  clear q1 B0 O0 hsh a0
  obtain ⟨mb, hmb⟩ : ∃ b, w.heap.size = b := ⟨_, rfl⟩
  have hwm : w.heap.size ≤ mb := by omega
  rw [hmb] at a00
  have hna : mb + 1 ≠ mb := by omega
  rw [hmb] at O1
  obtain ⟨m0, m1, m2, m3, m4⟩ := O1.cells
  try simp only [hmb]
  go_wp2_with fail
  refine (hsm _).mono ?_; rintro e V2 ⟨rfl, q2⟩
  have B2 := B1.trans (q2.mono B1.size)
  have O2 := O1.keep q2
  have a000 := a00.keep q2
  clear q2 B1 O1 m0 m1 m2 m3 m4 hsm a00
  obtain ⟨m0, m1, m2, m3, m4⟩ := O2.cells
  obtain ⟨f0, f1, f2, f3, f4⟩ := O2.thaw
  have O := O2.set (.int .i64 W) (.int .i64 D) (.int .i64 H) (.slice mp N mc) (.slice sp sn sc)
  have a := a000.set5 hna (.int .i64 W) (.int .i64 D) (.int .i64 H) (.slice mp N mc) (.slice sp sn sc)
  have HBs := below_set5 B2 hwm (.int .i64 W) (.int .i64 D) (.int .i64 H) (.slice mp N mc) (.slice sp sn sc)
  clear O2 B2 a000
  go_upto_region 3 with fail
  clear m0 m1 m2 m3 m4 f0 f1 f2 f3 f4
  generalize ((((V2.setCell ⟨mb, 0, none⟩ (.int .i64 W)).setCell ⟨mb, 1, none⟩ (.int .i64 D)).setCell ⟨mb, 2, none⟩ (.int .i64 H)).setCell ⟨mb, 3, none⟩ (.slice mp N mc)).setCell ⟨mb, 4, none⟩ (.slice sp sn sc) = U at *
  have HB := hid HBs
  clear HBs
  obtain ⟨R, hR⟩ := (mpOf W D H N mf).roomOf
  obtain ⟨m0, m1, m2, m3, m4⟩ := O.cells
  obtain ⟨ca0, ca1, ca2⟩ := a.cells
  go_wp2_with fail
  refine (traceFree W D H mp N mc mf sp sn sc R hR a1 a2 a3 ha1 ha2 ha3 _ (HM0.out.keep HB.out)).mono ?_; rintro e V3 ⟨rfl, bq⟩
  replace O := O.keep bq
  replace a := a.keep bq
  replace HB := hid (btrans HB.out bq)
  clear bq
  clear m0 m1 m2 m3 m4 ca0 ca1 ca2
  obtain ⟨f, hf⟩ : ∃ f, R a1 a2 a3 = f := ⟨_, rfl⟩
  rw [hf]
  cases f with
  | false =>
    go_wp2
    go_ret
    exact ⟨rfl, HB.out⟩
  | true =>
    replace hf := hid hf
    go_wp2
    go_loopw [8] (fun v wr => ∃ (j : Nat) (x1 x2 x3 : Int), v = .int .i64 j ∧ j ≤ ln ∧ j ≤ 20 ∧ Hid (R x1 x2 x3 = true) ∧ I64 x1 ∧ I64 x2 ∧ I64 x3 ∧ O5 wr mb (.int .i64 W) (.int .i64 D) (.int .i64 H) (.slice mp N mc) (.slice sp sn sc) ∧ O3 wr (mb + 1) 27 (.int .i64 x1) (.int .i64 x2) (.int .i64 x3) ∧ Hid (Below w.heap.size w wr)) (fun v _ => 20 - (intOf v).toNat)
    case atStart => exact ⟨0, a1, a2, a3, rfl, Nat.zero_le _, by omega, hf, ha1, ha2, ha3, O, a, HB⟩
    case round =>
      clear O a HB hf
      obtain ⟨j, x1, x2, x3, rfl, hj, hj30, hf, hx1, hx2, hx3, O, x, HB⟩ := hrel
      by_cases h1 : j < ln
      · by_cases h2 : j < 20
        · skip
          obtain ⟨lb, lo, rfl, hlb, hlc⟩ := (HL.out.keep HB.out).at h1
          obtain ⟨l0, l1, l2⟩ := hlc j h1
          obtain ⟨hv1, hv2, hv3⟩ := HZ.out j
          obtain ⟨v1, hvj⟩ : ∃ z, XF j = z := ⟨_, rfl⟩
          rw [hvj] at l0 hv1
          clear hvj
          obtain ⟨v2, hvj⟩ : ∃ z, YF j = z := ⟨_, rfl⟩
          rw [hvj] at l1 hv2
          clear hvj
          obtain ⟨v3, hvj⟩ : ∃ z, ZF j = z := ⟨_, rfl⟩
          rw [hvj] at l2 hv3
          clear hvj
          clear hlc
          obtain ⟨p1, p2, p3, q1, q2, q3, hsp⟩ : ∃ X1 Y1 Z1 C1 C2 C3, Slid R x1 x2 x3 (fclamp v1 32768) (fclamp v2 32768) (fclamp v3 32768) X1 Y1 Z1 C1 C2 C3 := ⟨_, _, _, _, _, _, Slid.mk' _ _ _ _ _ _ _⟩
          obtain ⟨hp1, hp2, hp3⟩ := hsp.i64 hx1 hx2 hx3
          have HSp := hid hsp
          clear hsp
          have HSL := hid (fun V (hV : Below wr.heap.size wr V) => traceSlide W D H mp N mc mf sp sn sc R hR x1 x2 x3 v1 v2 v3 hx1 hx2 hx3 hv1 hv2 hv3 _ _ _ _ _ _ HSp.out V (HM0.out.keep (btrans HB.out hV)))
          obtain ⟨m0, m1, m2, m3, m4⟩ := O.cells
          obtain ⟨cx0, cx1, cx2⟩ := x.cells
          have h1i : (j : Int) < (ln : Int) := by omega
          have h2i : (j : Int) < 20 := by omega
          go_upto_region 8 with fail
          have rm0 := stays m0
          have rm1 := stays m1
          have rm2 := stays m2
          have rm3 := stays m3
          have rm4 := stays m4
          have rx0 := stays cx0
          have rx1 := stays cx1
          have rx2 := stays cx2
          have rl0 := stays l0
          have rl1 := stays l1
          have rl2 := stays l2
          clear m0 m1 m2 m3 m4 cx0 cx1 cx2
          clear l0 l1 l2
          go_cut [9, 10] from 36 to 45 (fun c d wx => ∃ (pb qb : Nat) (V : World), c = .pointer (some ⟨pb, 0, none⟩) ∧ d = .pointer (some ⟨qb, 0, none⟩) ∧ wx = V ∧ O3 V pb 27 (.int .i64 p1) (.int .i64 p2) (.int .i64 p3) ∧ O3 V qb 30 (.bool q1) (.bool q2) (.bool q3) ∧ Below wr.heap.size wr V)
          case first =>
            have D1 : Below wr.heap.size wr (wr.drewN 1) := below_drewN wr 1
            refine region_held (fun w' => Below wr.heap.size wr w') 14 rfl (by kernel_rfl) D1 ?_
            intro hHeld
            refine takeO 0 (some 37) (v := ?v1) rfl rfl (by kernel_rfl) (by kernel_rfl) (by kernel_rfl) (Or.inl ⟨by rfl, ?y1⟩) hHeld ?r1
            case y1 => (intro w' hSw; (try dsimp only at hSw); go_simp; try with_reducible rfl)
            try simp only [Act.put, List.setIfInBounds_toArray, List.set_cons_zero, List.set_cons_succ]
            refine takeO 1 (some 38) (v := ?v2) rfl rfl (by kernel_rfl) (by kernel_rfl) (by kernel_rfl) (Or.inl ⟨by rfl, ?y2⟩) hHeld ?r2
            case y2 => (intro w' hSw; (try dsimp only at hSw); go_simp; try with_reducible rfl)
            try simp only [Act.put, List.setIfInBounds_toArray, List.set_cons_zero, List.set_cons_succ]
            refine takeO 2 (some 39) (v := ?v3) rfl rfl (by kernel_rfl) (by kernel_rfl) (by kernel_rfl) (Or.inl ⟨by rfl, ?y3⟩) hHeld ?r3
            case y3 => (intro w' hSw; (try dsimp only at hSw); go_simp; try with_reducible rfl)
            try simp only [Act.put, List.setIfInBounds_toArray, List.set_cons_zero, List.set_cons_succ]
            refine takeO 3 (some 40) (v := ?v4) rfl rfl (by kernel_rfl) (by kernel_rfl) (by kernel_rfl) (Or.inl ⟨by rfl, ?y4⟩) hHeld ?r4
            case y4 => (intro w' hSw; (try dsimp only at hSw); go_simp; try with_reducible rfl)
            try simp only [Act.put, List.setIfInBounds_toArray, List.set_cons_zero, List.set_cons_succ]
            refine takeO 4 (some 41) (v := ?v5) rfl rfl (by kernel_rfl) (by kernel_rfl) (by kernel_rfl) (Or.inl ⟨by rfl, ?y5⟩) hHeld ?r5
            case y5 => (intro w' hSw; (try dsimp only at hSw); go_simp; try with_reducible rfl)
            try simp only [Act.put, List.setIfInBounds_toArray, List.set_cons_zero, List.set_cons_succ]
            refine takeO 5 (some 42) (v := ?v6) rfl rfl (by kernel_rfl) (by kernel_rfl) (by kernel_rfl) (Or.inl ⟨by rfl, ?y6⟩) hHeld ?r6
            case y6 => (intro w' hSw; (try dsimp only at hSw); go_simp; try with_reducible rfl)
            try simp only [Act.put, List.setIfInBounds_toArray, List.set_cons_zero, List.set_cons_succ]
            refine wpAnyH_ready (rs := [6, 10, 11]) (by kernel_rfl) (by simp) ?_
            refine AllReadyH.cons rfl (fun K hK => ?_) (AllReadyH.cons rfl (fun K hK => ?_) (AllReadyH.cons rfl (fun K hK => ?_) AllReadyH.nil))
            · skip
              go_simp
              refine (HSL.out _ D1).mono ?_
              rintro e V1 ⟨rfl, bq⟩
              dsimp only
              have G1 : Below wr.heap.size wr V1 := Below.trans D1 bq
              refine hK.out _ _ G1 (fun hHeld => ?_)
              clear hK K bq
              refine takeO 7 (some 36) (v := ?v7) rfl rfl (by kernel_rfl) (by kernel_rfl) (by kernel_rfl) (Or.inl ⟨by rfl, ?y7⟩) hHeld ?r7
              case y7 => (intro w' hSw; (try dsimp only at hSw); go_simp; try with_reducible rfl)
              try simp only [Act.put, List.setIfInBounds_toArray, List.set_cons_zero, List.set_cons_succ]
              refine takeO 8 (some 44) (v := ?v8) rfl rfl (by kernel_rfl) (by kernel_rfl) (by kernel_rfl) (Or.inl ⟨by rfl, ?y8⟩) hHeld ?r8
              case y8 => (intro w' hSw; (try dsimp only at hSw); go_simp; try with_reducible rfl)
              try simp only [Act.put, List.setIfInBounds_toArray, List.set_cons_zero, List.set_cons_succ]
              refine takeO 9 (some 45) (v := ?v9) rfl rfl (by kernel_rfl) (by kernel_rfl) (by kernel_rfl) (Or.inl ⟨by rfl, ?y9⟩) hHeld ?r9
              case y9 => (intro w' hSw; (try dsimp only at hSw); go_simp; try with_reducible rfl)
              try simp only [Act.put, List.setIfInBounds_toArray, List.set_cons_zero, List.set_cons_succ]
              refine wpAnyH_ready (rs := [10, 11]) (by kernel_rfl) (by simp) ?_
              refine AllReadyH.cons rfl (fun K hK => ?_) (AllReadyH.cons rfl (fun K hK => ?_) AllReadyH.nil)
              · skip
                go_simp
                have G2 : Below wr.heap.size wr (V1.alloc (.cells #[.int .i64 0, .int .i64 0, .int .i64 0] 27)) := G1.alloc G1.size _
                refine hK.out _ _ G2 (fun hHeld => ?_)
                clear hK K
                have NP := O3.new V1 27 (.int .i64 0) (.int .i64 0) (.int .i64 0)
                obtain ⟨pb, hb⟩ : ∃ b, V1.heap.size = b := ⟨_, rfl⟩
                have hRP : wr.heap.size ≤ pb := hb ▸ G1.size
                rw [hb] at NP
                try simp only [hb]
                obtain ⟨V2, hV⟩ : ∃ V, V1.alloc (.cells #[.int .i64 0, .int .i64 0, .int .i64 0] 27) = V := ⟨_, rfl⟩
                simp only [hV] at NP G2 hHeld ⊢
                clear hV hb G1
                refine wpAnyH_ready (rs := [11]) (by kernel_rfl) (by simp) ?_
                refine AllReadyH.cons rfl (fun K hK => ?_) AllReadyH.nil
                go_simp
                have G3 : Below wr.heap.size wr (V2.alloc (.cells #[.bool false, .bool false, .bool false] 30)) := G2.alloc G2.size _
                refine hK.out _ _ G3 (fun hHeld => ?_)
                clear hK K
                have NQ := O3.new V2 30 (.bool false) (.bool false) (.bool false)
                obtain ⟨qb, hb⟩ : ∃ b, V2.heap.size = b := ⟨_, rfl⟩
                have hRQ : wr.heap.size ≤ qb := hb ▸ G2.size
                have hltQ : pb < qb := hb ▸ NP.lt
                replace NP := NP.alloc (.cells #[.bool false, .bool false, .bool false] 30)
                rw [hb] at NQ
                try simp only [hb]
                obtain ⟨V3, hV⟩ : ∃ V, V2.alloc (.cells #[.bool false, .bool false, .bool false] 30) = V := ⟨_, rfl⟩
                simp only [hV] at NQ G3 hHeld ⊢; simp only [hV] at NP
                clear hV hb G2
                refine wpAnyH_ready (rs := [12]) (by kernel_rfl) (by simp) ?_
                refine AllReadyH.cons rfl (fun K hK => ?_) AllReadyH.nil
                obtain ⟨f0, f1, f2⟩ := NP.thaw
                obtain ⟨c0, c1, c2⟩ := NP.cells
                go_simp
                refine hK.out _ _ (below_set3 G3 hRP _ _ _) (fun hHeld => ?_)
                clear hK K f0 f1 f2 c0 c1 c2
                replace NP := NP.set (.int .i64 p1) (.int .i64 p2) (.int .i64 p3)
                replace NQ := NQ.others (show qb ≠ pb by omega) (.int .i64 p1) (.int .i64 p2) (.int .i64 p3)
                have G9 := below_set3 G3 hRP (.int .i64 p1) (.int .i64 p2) (.int .i64 p3)
                obtain ⟨V9, hV9⟩ : ∃ V, (((V3.setCell ⟨pb, 0, none⟩ (.int .i64 p1)).setCell ⟨pb, 1, none⟩ (.int .i64 p2)).setCell ⟨pb, 2, none⟩ (.int .i64 p3)) = V := ⟨_, rfl⟩
                simp only [hV9] at NP NQ G9 hHeld ⊢
                clear hV9
                refine wpAnyH_ready (rs := [13]) (by kernel_rfl) (by simp) ?_
                refine AllReadyH.cons rfl (fun K hK => ?_) AllReadyH.nil
                obtain ⟨f0, f1, f2⟩ := NQ.thaw
                obtain ⟨c0, c1, c2⟩ := NQ.cells
                go_simp
                refine hK.out _ _ (below_set3 G9 hRQ _ _ _) (fun hHeld => ?_)
                refine wpAnyH_done (by kernel_rfl) (Only.on ?_) _
                clear hK K hHeld
                go_wp2
                go_meet
                exact ⟨pb, qb, _, rfl, rfl, rfl, NP.others (show pb ≠ qb by omega) _ _ _, NQ.set _ _ _, below_set3 G9 hRQ _ _ _⟩
              · skip
                go_simp
                have G2 : Below wr.heap.size wr (V1.alloc (.cells #[.bool false, .bool false, .bool false] 30)) := G1.alloc G1.size _
                refine hK.out _ _ G2 (fun hHeld => ?_)
                clear hK K
                have NQ := O3.new V1 30 (.bool false) (.bool false) (.bool false)
                obtain ⟨qb, hb⟩ : ∃ b, V1.heap.size = b := ⟨_, rfl⟩
                have hRQ : wr.heap.size ≤ qb := hb ▸ G1.size
                rw [hb] at NQ
                try simp only [hb]
                obtain ⟨V2, hV⟩ : ∃ V, V1.alloc (.cells #[.bool false, .bool false, .bool false] 30) = V := ⟨_, rfl⟩
                simp only [hV] at NQ G2 hHeld ⊢
                clear hV hb G1
                refine wpAnyH_ready (rs := [10]) (by kernel_rfl) (by simp) ?_
                refine AllReadyH.cons rfl (fun K hK => ?_) AllReadyH.nil
                go_simp
                have G3 : Below wr.heap.size wr (V2.alloc (.cells #[.int .i64 0, .int .i64 0, .int .i64 0] 27)) := G2.alloc G2.size _
                refine hK.out _ _ G3 (fun hHeld => ?_)
                clear hK K
                have NP := O3.new V2 27 (.int .i64 0) (.int .i64 0) (.int .i64 0)
                obtain ⟨pb, hb⟩ : ∃ b, V2.heap.size = b := ⟨_, rfl⟩
                have hRP : wr.heap.size ≤ pb := hb ▸ G2.size
                have hltP : qb < pb := hb ▸ NQ.lt
                replace NQ := NQ.alloc (.cells #[.int .i64 0, .int .i64 0, .int .i64 0] 27)
                rw [hb] at NP
                try simp only [hb]
                obtain ⟨V3, hV⟩ : ∃ V, V2.alloc (.cells #[.int .i64 0, .int .i64 0, .int .i64 0] 27) = V := ⟨_, rfl⟩
                simp only [hV] at NP G3 hHeld ⊢; simp only [hV] at NQ
                clear hV hb G2
                refine wpAnyH_ready (rs := [12]) (by kernel_rfl) (by simp) ?_
                refine AllReadyH.cons rfl (fun K hK => ?_) AllReadyH.nil
                obtain ⟨f0, f1, f2⟩ := NP.thaw
                obtain ⟨c0, c1, c2⟩ := NP.cells
                go_simp
                refine hK.out _ _ (below_set3 G3 hRP _ _ _) (fun hHeld => ?_)
                clear hK K f0 f1 f2 c0 c1 c2
                replace NP := NP.set (.int .i64 p1) (.int .i64 p2) (.int .i64 p3)
                replace NQ := NQ.others (show qb ≠ pb by omega) (.int .i64 p1) (.int .i64 p2) (.int .i64 p3)
                have G9 := below_set3 G3 hRP (.int .i64 p1) (.int .i64 p2) (.int .i64 p3)
                obtain ⟨V9, hV9⟩ : ∃ V, (((V3.setCell ⟨pb, 0, none⟩ (.int .i64 p1)).setCell ⟨pb, 1, none⟩ (.int .i64 p2)).setCell ⟨pb, 2, none⟩ (.int .i64 p3)) = V := ⟨_, rfl⟩
                simp only [hV9] at NP NQ G9 hHeld ⊢
                clear hV9
                refine wpAnyH_ready (rs := [13]) (by kernel_rfl) (by simp) ?_
                refine AllReadyH.cons rfl (fun K hK => ?_) AllReadyH.nil
                obtain ⟨f0, f1, f2⟩ := NQ.thaw
                obtain ⟨c0, c1, c2⟩ := NQ.cells
                go_simp
                refine hK.out _ _ (below_set3 G9 hRQ _ _ _) (fun hHeld => ?_)
                refine wpAnyH_done (by kernel_rfl) (Only.on ?_) _
                clear hK K hHeld
                go_wp2
                go_meet
                exact ⟨pb, qb, _, rfl, rfl, rfl, NP.others (show pb ≠ qb by omega) _ _ _, NQ.set _ _ _, below_set3 G9 hRQ _ _ _⟩
            · skip
              go_simp
              have G1 : Below wr.heap.size wr (wr.alloc (.cells #[.int .i64 0, .int .i64 0, .int .i64 0] 27)).drew := ((Below.refl _ _).alloc (Nat.le_refl _) _).drew
              refine hK.out _ _ G1 (fun hHeld => ?_)
              clear hK K
              have NP : O3 (wr.alloc (.cells #[.int .i64 0, .int .i64 0, .int .i64 0] 27)).drew wr.heap.size 27 (.int .i64 0) (.int .i64 0) (.int .i64 0) := ⟨(O3.new wr 27 (.int .i64 0) (.int .i64 0) (.int .i64 0)).obj⟩
              obtain ⟨V1, hV⟩ : ∃ V, (wr.alloc (.cells #[.int .i64 0, .int .i64 0, .int .i64 0] 27)).drew = V := ⟨_, rfl⟩
              have hRP : wr.heap.size ≤ wr.heap.size := Nat.le_refl _
              simp only [hV] at NP G1 hHeld ⊢
              clear hV
              refine wpAnyH_ready (rs := [6, 11]) (by kernel_rfl) (by simp) ?_
              refine AllReadyH.cons rfl (fun K hK => ?_) (AllReadyH.cons rfl (fun K hK => ?_) AllReadyH.nil)
              · skip
                go_simp
                refine (HSL.out _ G1).mono ?_
                rintro e V2 ⟨rfl, bq⟩
                dsimp only
                have G2 : Below wr.heap.size wr V2 := btrans G1 bq
                refine hK.out _ _ G2 (fun hHeld => ?_)
                replace NP := NP.keep bq
                clear hK K bq G1
                refine takeO 7 (some 36) (v := ?v10) rfl rfl (by kernel_rfl) (by kernel_rfl) (by kernel_rfl) (Or.inl ⟨by rfl, ?y10⟩) hHeld ?r10
                case y10 => (intro w' hSw; (try dsimp only at hSw); go_simp; try with_reducible rfl)
                try simp only [Act.put, List.setIfInBounds_toArray, List.set_cons_zero, List.set_cons_succ]
                refine takeO 8 (some 44) (v := ?v11) rfl rfl (by kernel_rfl) (by kernel_rfl) (by kernel_rfl) (Or.inl ⟨by rfl, ?y11⟩) hHeld ?r11
                case y11 => (intro w' hSw; (try dsimp only at hSw); go_simp; try with_reducible rfl)
                try simp only [Act.put, List.setIfInBounds_toArray, List.set_cons_zero, List.set_cons_succ]
                refine takeO 9 (some 45) (v := ?v12) rfl rfl (by kernel_rfl) (by kernel_rfl) (by kernel_rfl) (Or.inl ⟨by rfl, ?y12⟩) hHeld ?r12
                case y12 => (intro w' hSw; (try dsimp only at hSw); go_simp; try with_reducible rfl)
                try simp only [Act.put, List.setIfInBounds_toArray, List.set_cons_zero, List.set_cons_succ]
                refine wpAnyH_ready (rs := [11]) (by kernel_rfl) (by simp) ?_
                refine AllReadyH.cons rfl (fun K hK => ?_) AllReadyH.nil
                go_simp
                have G3 : Below wr.heap.size wr (V2.alloc (.cells #[.bool false, .bool false, .bool false] 30)) := G2.alloc G2.size _
                refine hK.out _ _ G3 (fun hHeld => ?_)
                clear hK K
                have NQ := O3.new V2 30 (.bool false) (.bool false) (.bool false)
                obtain ⟨qb, hb⟩ : ∃ b, V2.heap.size = b := ⟨_, rfl⟩
                have hRQ : wr.heap.size ≤ qb := hb ▸ G2.size
                have hltQ : wr.heap.size < qb := hb ▸ NP.lt
                replace NP := NP.alloc (.cells #[.bool false, .bool false, .bool false] 30)
                rw [hb] at NQ
                try simp only [hb]
                obtain ⟨V3, hV⟩ : ∃ V, V2.alloc (.cells #[.bool false, .bool false, .bool false] 30) = V := ⟨_, rfl⟩
                simp only [hV] at NQ G3 hHeld ⊢; simp only [hV] at NP
                clear hV hb G2
                refine wpAnyH_ready (rs := [12]) (by kernel_rfl) (by simp) ?_
                refine AllReadyH.cons rfl (fun K hK => ?_) AllReadyH.nil
                obtain ⟨f0, f1, f2⟩ := NP.thaw
                obtain ⟨c0, c1, c2⟩ := NP.cells
                go_simp
                refine hK.out _ _ (below_set3 G3 hRP _ _ _) (fun hHeld => ?_)
                clear hK K f0 f1 f2 c0 c1 c2
                replace NP := NP.set (.int .i64 p1) (.int .i64 p2) (.int .i64 p3)
                replace NQ := NQ.others (show qb ≠ wr.heap.size by omega) (.int .i64 p1) (.int .i64 p2) (.int .i64 p3)
                have G9 := below_set3 G3 hRP (.int .i64 p1) (.int .i64 p2) (.int .i64 p3)
                obtain ⟨V9, hV9⟩ : ∃ V, (((V3.setCell ⟨wr.heap.size, 0, none⟩ (.int .i64 p1)).setCell ⟨wr.heap.size, 1, none⟩ (.int .i64 p2)).setCell ⟨wr.heap.size, 2, none⟩ (.int .i64 p3)) = V := ⟨_, rfl⟩
                simp only [hV9] at NP NQ G9 hHeld ⊢
                clear hV9
                refine wpAnyH_ready (rs := [13]) (by kernel_rfl) (by simp) ?_
                refine AllReadyH.cons rfl (fun K hK => ?_) AllReadyH.nil
                obtain ⟨f0, f1, f2⟩ := NQ.thaw
                obtain ⟨c0, c1, c2⟩ := NQ.cells
                go_simp
                refine hK.out _ _ (below_set3 G9 hRQ _ _ _) (fun hHeld => ?_)
                refine wpAnyH_done (by kernel_rfl) (Only.on ?_) _
                clear hK K hHeld
                go_wp2
                go_meet
                exact ⟨wr.heap.size, qb, _, rfl, rfl, rfl, NP.others (show wr.heap.size ≠ qb by omega) _ _ _, NQ.set _ _ _, below_set3 G9 hRQ _ _ _⟩
              · skip
                go_simp
                have G2 : Below wr.heap.size wr (V1.alloc (.cells #[.bool false, .bool false, .bool false] 30)) := G1.alloc G1.size _
                refine hK.out _ _ G2 (fun hHeld => ?_)
                clear hK K
                have NQ := O3.new V1 30 (.bool false) (.bool false) (.bool false)
                obtain ⟨qb, hb⟩ : ∃ b, V1.heap.size = b := ⟨_, rfl⟩
                have hRQ : wr.heap.size ≤ qb := hb ▸ G1.size
                have hltQ : wr.heap.size < qb := hb ▸ NP.lt
                replace NP := NP.alloc (.cells #[.bool false, .bool false, .bool false] 30)
                rw [hb] at NQ
                try simp only [hb]
                obtain ⟨V2, hV⟩ : ∃ V, V1.alloc (.cells #[.bool false, .bool false, .bool false] 30) = V := ⟨_, rfl⟩
                simp only [hV] at NQ G2 hHeld ⊢; simp only [hV] at NP
                clear hV hb G1
                refine wpAnyH_ready (rs := [6]) (by kernel_rfl) (by simp) ?_
                refine AllReadyH.cons rfl (fun K hK => ?_) AllReadyH.nil
                go_simp
                refine (HSL.out _ G2).mono ?_
                rintro e V3 ⟨rfl, bq⟩
                dsimp only
                have G3 : Below wr.heap.size wr V3 := btrans G2 bq
                refine hK.out _ _ G3 (fun hHeld => ?_)
                replace NP := NP.keep bq
                replace NQ := NQ.keep bq
                clear hK K bq G2
                refine takeO 7 (some 36) (v := ?v13) rfl rfl (by kernel_rfl) (by kernel_rfl) (by kernel_rfl) (Or.inl ⟨by rfl, ?y13⟩) hHeld ?r13
                case y13 => (intro w' hSw; (try dsimp only at hSw); go_simp; try with_reducible rfl)
                try simp only [Act.put, List.setIfInBounds_toArray, List.set_cons_zero, List.set_cons_succ]
                refine takeO 8 (some 44) (v := ?v14) rfl rfl (by kernel_rfl) (by kernel_rfl) (by kernel_rfl) (Or.inl ⟨by rfl, ?y14⟩) hHeld ?r14
                case y14 => (intro w' hSw; (try dsimp only at hSw); go_simp; try with_reducible rfl)
                try simp only [Act.put, List.setIfInBounds_toArray, List.set_cons_zero, List.set_cons_succ]
                refine takeO 9 (some 45) (v := ?v15) rfl rfl (by kernel_rfl) (by kernel_rfl) (by kernel_rfl) (Or.inl ⟨by rfl, ?y15⟩) hHeld ?r15
                case y15 => (intro w' hSw; (try dsimp only at hSw); go_simp; try with_reducible rfl)
                try simp only [Act.put, List.setIfInBounds_toArray, List.set_cons_zero, List.set_cons_succ]
                refine wpAnyH_ready (rs := [12]) (by kernel_rfl) (by simp) ?_
                refine AllReadyH.cons rfl (fun K hK => ?_) AllReadyH.nil
                obtain ⟨f0, f1, f2⟩ := NP.thaw
                obtain ⟨c0, c1, c2⟩ := NP.cells
                go_simp
                refine hK.out _ _ (below_set3 G3 hRP _ _ _) (fun hHeld => ?_)
                clear hK K f0 f1 f2 c0 c1 c2
                replace NP := NP.set (.int .i64 p1) (.int .i64 p2) (.int .i64 p3)
                replace NQ := NQ.others (show qb ≠ wr.heap.size by omega) (.int .i64 p1) (.int .i64 p2) (.int .i64 p3)
                have G9 := below_set3 G3 hRP (.int .i64 p1) (.int .i64 p2) (.int .i64 p3)
                obtain ⟨V9, hV9⟩ : ∃ V, (((V3.setCell ⟨wr.heap.size, 0, none⟩ (.int .i64 p1)).setCell ⟨wr.heap.size, 1, none⟩ (.int .i64 p2)).setCell ⟨wr.heap.size, 2, none⟩ (.int .i64 p3)) = V := ⟨_, rfl⟩
                simp only [hV9] at NP NQ G9 hHeld ⊢
                clear hV9
                refine wpAnyH_ready (rs := [13]) (by kernel_rfl) (by simp) ?_
                refine AllReadyH.cons rfl (fun K hK => ?_) AllReadyH.nil
                obtain ⟨f0, f1, f2⟩ := NQ.thaw
                obtain ⟨c0, c1, c2⟩ := NQ.cells
                go_simp
                refine hK.out _ _ (below_set3 G9 hRQ _ _ _) (fun hHeld => ?_)
                refine wpAnyH_done (by kernel_rfl) (Only.on ?_) _
                clear hK K hHeld
                go_wp2
                go_meet
                exact ⟨wr.heap.size, qb, _, rfl, rfl, rfl, NP.others (show wr.heap.size ≠ qb by omega) _ _ _, NQ.set _ _ _, below_set3 G9 hRQ _ _ _⟩
            · skip
              go_simp
              have G1 : Below wr.heap.size wr (wr.alloc (.cells #[.bool false, .bool false, .bool false] 30)).drew := ((Below.refl _ _).alloc (Nat.le_refl _) _).drew
              refine hK.out _ _ G1 (fun hHeld => ?_)
              clear hK K
              have NQ : O3 (wr.alloc (.cells #[.bool false, .bool false, .bool false] 30)).drew wr.heap.size 30 (.bool false) (.bool false) (.bool false) := ⟨(O3.new wr 30 (.bool false) (.bool false) (.bool false)).obj⟩
              obtain ⟨V1, hV⟩ : ∃ V, (wr.alloc (.cells #[.bool false, .bool false, .bool false] 30)).drew = V := ⟨_, rfl⟩
              have hRQ : wr.heap.size ≤ wr.heap.size := Nat.le_refl _
              simp only [hV] at NQ G1 hHeld ⊢
              clear hV
              refine wpAnyH_ready (rs := [6, 10]) (by kernel_rfl) (by simp) ?_
              refine AllReadyH.cons rfl (fun K hK => ?_) (AllReadyH.cons rfl (fun K hK => ?_) AllReadyH.nil)
              · skip
                go_simp
                refine (HSL.out _ G1).mono ?_
                rintro e V2 ⟨rfl, bq⟩
                dsimp only
                have G2 : Below wr.heap.size wr V2 := btrans G1 bq
                refine hK.out _ _ G2 (fun hHeld => ?_)
                replace NQ := NQ.keep bq
                clear hK K bq G1
                refine takeO 7 (some 36) (v := ?v16) rfl rfl (by kernel_rfl) (by kernel_rfl) (by kernel_rfl) (Or.inl ⟨by rfl, ?y16⟩) hHeld ?r16
                case y16 => (intro w' hSw; (try dsimp only at hSw); go_simp; try with_reducible rfl)
                try simp only [Act.put, List.setIfInBounds_toArray, List.set_cons_zero, List.set_cons_succ]
                refine takeO 8 (some 44) (v := ?v17) rfl rfl (by kernel_rfl) (by kernel_rfl) (by kernel_rfl) (Or.inl ⟨by rfl, ?y17⟩) hHeld ?r17
                case y17 => (intro w' hSw; (try dsimp only at hSw); go_simp; try with_reducible rfl)
                try simp only [Act.put, List.setIfInBounds_toArray, List.set_cons_zero, List.set_cons_succ]
                refine takeO 9 (some 45) (v := ?v18) rfl rfl (by kernel_rfl) (by kernel_rfl) (by kernel_rfl) (Or.inl ⟨by rfl, ?y18⟩) hHeld ?r18
                case y18 => (intro w' hSw; (try dsimp only at hSw); go_simp; try with_reducible rfl)
                try simp only [Act.put, List.setIfInBounds_toArray, List.set_cons_zero, List.set_cons_succ]
                refine wpAnyH_ready (rs := [10]) (by kernel_rfl) (by simp) ?_
                refine AllReadyH.cons rfl (fun K hK => ?_) AllReadyH.nil
                go_simp
                have G3 : Below wr.heap.size wr (V2.alloc (.cells #[.int .i64 0, .int .i64 0, .int .i64 0] 27)) := G2.alloc G2.size _
                refine hK.out _ _ G3 (fun hHeld => ?_)
                clear hK K
                have NP := O3.new V2 27 (.int .i64 0) (.int .i64 0) (.int .i64 0)
                obtain ⟨pb, hb⟩ : ∃ b, V2.heap.size = b := ⟨_, rfl⟩
                have hRP : wr.heap.size ≤ pb := hb ▸ G2.size
                have hltP : wr.heap.size < pb := hb ▸ NQ.lt
                replace NQ := NQ.alloc (.cells #[.int .i64 0, .int .i64 0, .int .i64 0] 27)
                rw [hb] at NP
                try simp only [hb]
                obtain ⟨V3, hV⟩ : ∃ V, V2.alloc (.cells #[.int .i64 0, .int .i64 0, .int .i64 0] 27) = V := ⟨_, rfl⟩
                simp only [hV] at NP G3 hHeld ⊢; simp only [hV] at NQ
                clear hV hb G2
                refine wpAnyH_ready (rs := [12]) (by kernel_rfl) (by simp) ?_
                refine AllReadyH.cons rfl (fun K hK => ?_) AllReadyH.nil
                obtain ⟨f0, f1, f2⟩ := NP.thaw
                obtain ⟨c0, c1, c2⟩ := NP.cells
                go_simp
                refine hK.out _ _ (below_set3 G3 hRP _ _ _) (fun hHeld => ?_)
                clear hK K f0 f1 f2 c0 c1 c2
                replace NP := NP.set (.int .i64 p1) (.int .i64 p2) (.int .i64 p3)
                replace NQ := NQ.others (show wr.heap.size ≠ pb by omega) (.int .i64 p1) (.int .i64 p2) (.int .i64 p3)
                have G9 := below_set3 G3 hRP (.int .i64 p1) (.int .i64 p2) (.int .i64 p3)
                obtain ⟨V9, hV9⟩ : ∃ V, (((V3.setCell ⟨pb, 0, none⟩ (.int .i64 p1)).setCell ⟨pb, 1, none⟩ (.int .i64 p2)).setCell ⟨pb, 2, none⟩ (.int .i64 p3)) = V := ⟨_, rfl⟩
                simp only [hV9] at NP NQ G9 hHeld ⊢
                clear hV9
                refine wpAnyH_ready (rs := [13]) (by kernel_rfl) (by simp) ?_
                refine AllReadyH.cons rfl (fun K hK => ?_) AllReadyH.nil
                obtain ⟨f0, f1, f2⟩ := NQ.thaw
                obtain ⟨c0, c1, c2⟩ := NQ.cells
                go_simp
                refine hK.out _ _ (below_set3 G9 hRQ _ _ _) (fun hHeld => ?_)
                refine wpAnyH_done (by kernel_rfl) (Only.on ?_) _
                clear hK K hHeld
                go_wp2
                go_meet
                exact ⟨pb, wr.heap.size, _, rfl, rfl, rfl, NP.others (show pb ≠ wr.heap.size by omega) _ _ _, NQ.set _ _ _, below_set3 G9 hRQ _ _ _⟩
              · skip
                go_simp
                have G2 : Below wr.heap.size wr (V1.alloc (.cells #[.int .i64 0, .int .i64 0, .int .i64 0] 27)) := G1.alloc G1.size _
                refine hK.out _ _ G2 (fun hHeld => ?_)
                clear hK K
                have NP := O3.new V1 27 (.int .i64 0) (.int .i64 0) (.int .i64 0)
                obtain ⟨pb, hb⟩ : ∃ b, V1.heap.size = b := ⟨_, rfl⟩
                have hRP : wr.heap.size ≤ pb := hb ▸ G1.size
                have hltP : wr.heap.size < pb := hb ▸ NQ.lt
                replace NQ := NQ.alloc (.cells #[.int .i64 0, .int .i64 0, .int .i64 0] 27)
                rw [hb] at NP
                try simp only [hb]
                obtain ⟨V2, hV⟩ : ∃ V, V1.alloc (.cells #[.int .i64 0, .int .i64 0, .int .i64 0] 27) = V := ⟨_, rfl⟩
                simp only [hV] at NP G2 hHeld ⊢; simp only [hV] at NQ
                clear hV hb G1
                refine wpAnyH_ready (rs := [6]) (by kernel_rfl) (by simp) ?_
                refine AllReadyH.cons rfl (fun K hK => ?_) AllReadyH.nil
                go_simp
                refine (HSL.out _ G2).mono ?_
                rintro e V3 ⟨rfl, bq⟩
                dsimp only
                have G3 : Below wr.heap.size wr V3 := btrans G2 bq
                refine hK.out _ _ G3 (fun hHeld => ?_)
                replace NP := NP.keep bq
                replace NQ := NQ.keep bq
                clear hK K bq G2
                refine takeO 7 (some 36) (v := ?v19) rfl rfl (by kernel_rfl) (by kernel_rfl) (by kernel_rfl) (Or.inl ⟨by rfl, ?y19⟩) hHeld ?r19
                case y19 => (intro w' hSw; (try dsimp only at hSw); go_simp; try with_reducible rfl)
                try simp only [Act.put, List.setIfInBounds_toArray, List.set_cons_zero, List.set_cons_succ]
                refine takeO 8 (some 44) (v := ?v20) rfl rfl (by kernel_rfl) (by kernel_rfl) (by kernel_rfl) (Or.inl ⟨by rfl, ?y20⟩) hHeld ?r20
                case y20 => (intro w' hSw; (try dsimp only at hSw); go_simp; try with_reducible rfl)
                try simp only [Act.put, List.setIfInBounds_toArray, List.set_cons_zero, List.set_cons_succ]
                refine takeO 9 (some 45) (v := ?v21) rfl rfl (by kernel_rfl) (by kernel_rfl) (by kernel_rfl) (Or.inl ⟨by rfl, ?y21⟩) hHeld ?r21
                case y21 => (intro w' hSw; (try dsimp only at hSw); go_simp; try with_reducible rfl)
                try simp only [Act.put, List.setIfInBounds_toArray, List.set_cons_zero, List.set_cons_succ]
                refine wpAnyH_ready (rs := [12]) (by kernel_rfl) (by simp) ?_
                refine AllReadyH.cons rfl (fun K hK => ?_) AllReadyH.nil
                obtain ⟨f0, f1, f2⟩ := NP.thaw
                obtain ⟨c0, c1, c2⟩ := NP.cells
                go_simp
                refine hK.out _ _ (below_set3 G3 hRP _ _ _) (fun hHeld => ?_)
                clear hK K f0 f1 f2 c0 c1 c2
                replace NP := NP.set (.int .i64 p1) (.int .i64 p2) (.int .i64 p3)
                replace NQ := NQ.others (show wr.heap.size ≠ pb by omega) (.int .i64 p1) (.int .i64 p2) (.int .i64 p3)
                have G9 := below_set3 G3 hRP (.int .i64 p1) (.int .i64 p2) (.int .i64 p3)
                obtain ⟨V9, hV9⟩ : ∃ V, (((V3.setCell ⟨pb, 0, none⟩ (.int .i64 p1)).setCell ⟨pb, 1, none⟩ (.int .i64 p2)).setCell ⟨pb, 2, none⟩ (.int .i64 p3)) = V := ⟨_, rfl⟩
                simp only [hV9] at NP NQ G9 hHeld ⊢
                clear hV9
                refine wpAnyH_ready (rs := [13]) (by kernel_rfl) (by simp) ?_
                refine AllReadyH.cons rfl (fun K hK => ?_) AllReadyH.nil
                obtain ⟨f0, f1, f2⟩ := NQ.thaw
                obtain ⟨c0, c1, c2⟩ := NQ.cells
                go_simp
                refine hK.out _ _ (below_set3 G9 hRQ _ _ _) (fun hHeld => ?_)
                refine wpAnyH_done (by kernel_rfl) (Only.on ?_) _
                clear hK K hHeld
                go_wp2
                go_meet
                exact ⟨pb, wr.heap.size, _, rfl, rfl, rfl, NP.others (show pb ≠ wr.heap.size by omega) _ _ _, NQ.set _ _ _, below_set3 G9 hRQ _ _ _⟩
          case rest =>
          obtain ⟨pb, qb, U1, rfl, rfl, eU, p, q, G⟩ := hcut
          replace eU := eU.symm
          subst eU
          have l0 := rl0 _ G; have l1 := rl1 _ G; have l2 := rl2 _ G
          replace O := O.keep G; replace x := x.keep G; replace HB := hid (btrans HB.out G)
          clear rm0 rm1 rm2 rm3 rm4 rx0 rx1 rx2 rl0 rl1 rl2 G HSL
          go_upto_region 10 with fail
          have y := O3.new U1 27 (.int .i64 v1) (.int .i64 v2) (.int .i64 v3)
          have hxy := x.lt; have hoy := O.lt
          replace O := O.alloc (.cells #[.int .i64 v1, .int .i64 v2, .int .i64 v3] 27); replace x := x.alloc (.cells #[.int .i64 v1, .int .i64 v2, .int .i64 v3] 27); replace p := p.alloc (.cells #[.int .i64 v1, .int .i64 v2, .int .i64 v3] 27); replace q := q.alloc (.cells #[.int .i64 v1, .int .i64 v2, .int .i64 v3] 27); replace HB := hid (HB.out.alloc HB.out.size (.cells #[.int .i64 v1, .int .i64 v2, .int .i64 v3] 27))
          obtain ⟨yb, hyb⟩ : ∃ b, U1.heap.size = b := ⟨_, rfl⟩
          rw [hyb] at y
          try simp only [hyb]
          generalize U1.alloc (.cells #[.int .i64 v1, .int .i64 v2, .int .i64 v3] 27) = U2 at *
          clear hyb hxy hoy l0 l1 l2
          obtain ⟨k1, hk1⟩ : ∃ k, min 32768 v1 = k := ⟨_, rfl⟩
          have mi1 := fun ts t W => min2 (a := 32768) (b := v1) ts t W
          simp only [hk1] at mi1
          obtain ⟨c1, hcc1⟩ : ∃ c, max (-32768) k1 = c := ⟨_, rfl⟩
          have ma1 := fun ts t W => max2 (a := -32768) (b := k1) ts t W
          simp only [hcc1] at ma1
          have n1 : -32768 ≤ c1 ∧ c1 ≤ 32768 := by omega
          have hc1 : I64 c1 := ⟨by omega, by omega⟩
          have ec1 : fclamp v1 32768 = c1 := by rw [cl_mm, hk1, hcc1]
          have EC1 := hid ec1
          clear hk1 hcc1 ec1
          obtain ⟨k2, hk2⟩ : ∃ k, min 32768 v2 = k := ⟨_, rfl⟩
          have mi2 := fun ts t W => min2 (a := 32768) (b := v2) ts t W
          simp only [hk2] at mi2
          obtain ⟨c2, hcc2⟩ : ∃ c, max (-32768) k2 = c := ⟨_, rfl⟩
          have ma2 := fun ts t W => max2 (a := -32768) (b := k2) ts t W
          simp only [hcc2] at ma2
          have n2 : -32768 ≤ c2 ∧ c2 ≤ 32768 := by omega
          have hc2 : I64 c2 := ⟨by omega, by omega⟩
          have ec2 : fclamp v2 32768 = c2 := by rw [cl_mm, hk2, hcc2]
          have EC2 := hid ec2
          clear hk2 hcc2 ec2
          obtain ⟨k3, hk3⟩ : ∃ k, min 32768 v3 = k := ⟨_, rfl⟩
          have mi3 := fun ts t W => min2 (a := 32768) (b := v3) ts t W
          simp only [hk3] at mi3
          obtain ⟨c3, hcc3⟩ : ∃ c, max (-32768) k3 = c := ⟨_, rfl⟩
          have ma3 := fun ts t W => max2 (a := -32768) (b := k3) ts t W
          simp only [hcc3] at ma3
          have n3 : -32768 ≤ c3 ∧ c3 ≤ 32768 := by omega
          have hc3 : I64 c3 := ⟨by omega, by omega⟩
          have ec3 : fclamp v3 32768 = c3 := by rw [cl_mm, hk3, hcc3]
          have EC3 := hid ec3
          clear hk3 hcc3 ec3
          have e1 := HSp.out
          rw [EC1.out, EC2.out, EC3.out] at e1
          obtain ⟨s0, s1, s2, s3⟩ := e1.stays hR hx1 hx2 hx3 n1 n2 n3 hf.out
          clear e1 HSp
          obtain ⟨hin0, ⟨i10, i11⟩, ⟨i20, i21⟩, ⟨i30, i31⟩⟩ := ((hR _ _ _).1 hf.out).inside hx1 hx2 hx3
          obtain ⟨_, w2, _, w4, _, w6, _⟩ := hin0
          dsimp only [mpOf] at i11 i21 i31 w2 w4 w6
          replace s0 := hid s0; replace s1 := hid s1; replace s2 := hid s2; replace s3 := hid s3
          have ew1 : IntKind.i64.wrap (x1 + c1) = x1 + c1 := wrapI (by omega) (by omega)
          have ew2 : IntKind.i64.wrap (x2 + c2) = x2 + c2 := wrapI (by omega) (by omega)
          have ew3 : IntKind.i64.wrap (x3 + c3) = x3 + c3 := wrapI (by omega) (by omega)
          clear i10 i11 i20 i21 i30 i31 w2 w4 w6 EC1 EC2 EC3
          obtain ⟨y0, y1, y2⟩ := y.cells
          go_upto_region 13 with fail
          clear y0 y1 y2 y mi1 ma1 mi2 ma2 mi3 ma3
          go_cut [15] from 62 to 88 (fun v wx => v = .bool true ∧ wx = U2)
          case first =>
            obtain ⟨cp0, cp1, cp2⟩ := p.cells
            obtain ⟨cq0, cq1, cq2⟩ := q.cells
            obtain ⟨cx0, cx1, cx2⟩ := x.cells
            rcases s1.out with ⟨g1, g2⟩ | ⟨g1, g2, g3⟩
            · subst g1; subst g2
              clear O x p q HB hf s0 s1 s2 s3 hR
              go_wp2
              go_meet
              exact ⟨rfl, rfl⟩
            · have g4 : ¬ x1 = x1 + c1 := by omega
              have g5 : (c1 != 0) = true := bne_iff_ne.2 g3
              subst g1; subst g2
              clear O x p q HB hf s0 s1 s2 s3 hR g3
              go_wp2
              go_meet
              exact ⟨by first | rfl | exact congrArg Value.bool g5, rfl⟩
          case rest =>
          obtain ⟨rfl, eU⟩ := hcut
          replace eU := eU.symm
          subst eU
          go_upto_region 14 with fail
          go_cut [16] from 89 to 115 (fun v wx => v = .bool true ∧ wx = U2)
          case first =>
            obtain ⟨cp0, cp1, cp2⟩ := p.cells
            obtain ⟨cq0, cq1, cq2⟩ := q.cells
            obtain ⟨cx0, cx1, cx2⟩ := x.cells
            rcases s2.out with ⟨g1, g2⟩ | ⟨g1, g2, g3⟩
            · subst g1; subst g2
              clear O x p q HB hf s0 s1 s2 s3 hR
              go_wp2
              go_meet
              exact ⟨rfl, rfl⟩
            · have g4 : ¬ x2 = x2 + c2 := by omega
              have g5 : (c2 != 0) = true := bne_iff_ne.2 g3
              subst g1; subst g2
              clear O x p q HB hf s0 s1 s2 s3 hR g3
              go_wp2
              go_meet
              exact ⟨by first | rfl | exact congrArg Value.bool g5, rfl⟩
          case rest =>
          obtain ⟨rfl, eU⟩ := hcut
          replace eU := eU.symm
          subst eU
          go_upto_region 15 with fail
          go_cut [17] from 116 to 142 (fun v wx => v = .bool true ∧ wx = U2)
          case first =>
            obtain ⟨cp0, cp1, cp2⟩ := p.cells
            obtain ⟨cq0, cq1, cq2⟩ := q.cells
            obtain ⟨cx0, cx1, cx2⟩ := x.cells
            rcases s3.out with ⟨g1, g2⟩ | ⟨g1, g2, g3⟩
            · subst g1; subst g2
              clear O x p q HB hf s0 s1 s2 s3 hR
              go_wp2
              go_meet
              exact ⟨rfl, rfl⟩
            · have g4 : ¬ x3 = x3 + c3 := by omega
              have g5 : (c3 != 0) = true := bne_iff_ne.2 g3
              subst g1; subst g2
              clear O x p q HB hf s0 s1 s2 s3 hR g3
              go_wp2
              go_meet
              exact ⟨by first | rfl | exact congrArg Value.bool g5, rfl⟩
          case rest =>
          obtain ⟨rfl, eU⟩ := hcut
          replace eU := eU.symm
          subst eU
          go_upto_region 16 with fail
          obtain ⟨cp0, cp1, cp2⟩ := p.cells
          obtain ⟨m0, m1, m2, m3, m4⟩ := O.cells
          go_wp2_with fail
          refine (traceFree W D H mp N mc mf sp sn sc R hR p1 p2 p3 hp1 hp2 hp3 _ (HM0.out.keep HB.out)).mono ?_; rintro e V5 ⟨rfl, bq⟩
          rw [s0.out]
          replace O := O.keep bq; replace x := x.keep bq; replace p := p.keep bq; replace HB := hid (btrans HB.out bq)
          clear bq cp0 cp1 cp2 m0 m1 m2 m3 m4 q
          obtain ⟨cp0, cp1, cp2⟩ := p.cells
          obtain ⟨cx0, cx1, cx2⟩ := x.cells
          obtain ⟨f0, f1, f2⟩ := x.thaw
          have xn := x.set (.int .i64 p1) (.int .i64 p2) (.int .i64 p3)
          have On := O.others (show mb ≠ mb + 1 by omega) (.int .i64 p1) (.int .i64 p2) (.int .i64 p3)
          have HBn := hid (below_set3 HB.out (show w.heap.size ≤ mb + 1 by omega) (.int .i64 p1) (.int .i64 p2) (.int .i64 p3))
          clear O HB
          go_wp2
          exact ⟨⟨j + 1, p1, p2, p3, by go_num, by omega, by omega, s0, hp1, hp2, hp3, On, xn, HBn⟩, by simp [intOf]; omega⟩
        · go_wp2
          go_ret
          exact ⟨rfl, HB.out⟩
      · go_wp2
        go_ret
        exact ⟨rfl, HB.out⟩
end Go.Proofs.Ytpghdfleffgilaa
