/- Layer 10 (trace): the walk of the law TraceTells. -/
import Derived.Test.YtpghdfleffgilaaTwA
namespace Go.Proofs.Ytpghdfleffgilaa
open Go.RowKit
set_option linter.unusedVariables false
set_option linter.unusedSimpArgs false
attribute [local go_sem ↓] Go.wp_at_zero Go.wp_at_succ

set_option maxRecDepth 100000 in
set_option maxHeartbeats 4000000 in
theorem traceTells_walk (W D H : Int) (mp : Option Addr) (mn mc : Nat) (mf : Nat → Bool) (sp : Option Addr) (sn sc : Nat) (X Y Z : Nat → Int) (a1 a2 a3 : Int) (b1 b2 b3 : Int) (w : World) (hW : I64 W) (hD : I64 D) (hH : I64 H) (hm : Arg w mp mn mc fun i => .bool (mf i)) (hv : ArgW w sp sn sc X Y Z) (hX : ∀ i, I64 (X i) ∧ I64 (Y i) ∧ I64 (Z i)) (ha1 : I64 a1) (ha2 : I64 a2) (ha3 : I64 a3) (hb1 : I64 b1) (hb2 : I64 b2) (hb3 : I64 b3) :
    Calls Try.prog 3 #[.agg #[.int .i64 W, .int .i64 D, .int .i64 H, .slice mp mn mc, .slice sp sn sc], .agg #[.int .i64 a1, .int .i64 a2, .int .i64 a3], .agg #[.int .i64 b1, .int .i64 b2, .int .i64 b3]] w fun e w' => e = .returned (.bool true) ∧ Below w.heap.size w w' := by
  have hle := hm.le; have hmost := hm.most
  obtain ⟨N, hN⟩ : ∃ N, min mn 32768 = N := ⟨_, rfl⟩
  have hsm := fun V => trSmall W D H mp mn mc mf sp sn sc hle hmost V
  rw [hN] at hsm
  have HM0 := hid (hm.cut (show N ≤ mn by omega))
  have hN1 : N ≤ 32768 := by omega
  have hsh := trShown
  unfold maxLen at hmost
  clear hm hN
  have B0 : Below w.heap.size w (((w.alloc (.cells #[.int .i64 W, .int .i64 D, .int .i64 H, .slice mp mn mc, .slice sp sn sc] 25)).alloc (.cells #[.int .i64 a1, .int .i64 a2, .int .i64 a3] 27)).alloc (.cells #[.int .i64 b1, .int .i64 b2, .int .i64 b3] 27)) := (((Below.refl _ _).alloc (Nat.le_refl _) _).alloc (by simp) _).alloc (by simp; omega) _
  have O0 : O5 (((w.alloc (.cells #[.int .i64 W, .int .i64 D, .int .i64 H, .slice mp mn mc, .slice sp sn sc] 25)).alloc (.cells #[.int .i64 a1, .int .i64 a2, .int .i64 a3] 27)).alloc (.cells #[.int .i64 b1, .int .i64 b2, .int .i64 b3] 27)) (w.heap.size) (.int .i64 W) (.int .i64 D) (.int .i64 H) (.slice mp mn mc) (.slice sp sn sc) := ((O5.new _ _ _ _ _ _).alloc _).alloc _
  have a0 : O3 (((w.alloc (.cells #[.int .i64 W, .int .i64 D, .int .i64 H, .slice mp mn mc, .slice sp sn sc] 25)).alloc (.cells #[.int .i64 a1, .int .i64 a2, .int .i64 a3] 27)).alloc (.cells #[.int .i64 b1, .int .i64 b2, .int .i64 b3] 27)) (w.heap.size + 1) 27 (.int .i64 a1) (.int .i64 a2) (.int .i64 a3) := (O3.new' _ _ _ _ _ (by simp)).alloc _
  have b0 : O3 (((w.alloc (.cells #[.int .i64 W, .int .i64 D, .int .i64 H, .slice mp mn mc, .slice sp sn sc] 25)).alloc (.cells #[.int .i64 a1, .int .i64 a2, .int .i64 a3] 27)).alloc (.cells #[.int .i64 b1, .int .i64 b2, .int .i64 b3] 27)) (w.heap.size + 1 + 1) 27 (.int .i64 b1) (.int .i64 b2) (.int .i64 b3) := O3.new' _ _ _ _ _ (by simp)
  go_enter Try.func3, Try.ntmps3
  go_wp2_with fail
  refine (hsh _).mono ?_; rintro e V1 ⟨rfl, q1⟩
  have B1 := B0.trans (q1.mono B0.size)
  have O1 := O0.keep q1
  have a00 := a0.keep q1
  have b00 := b0.keep q1
  clear q1 B0 O0 hsh a0 b0
  obtain ⟨mb, hmb⟩ : ∃ b, w.heap.size = b := ⟨_, rfl⟩
  have hwm : w.heap.size ≤ mb := by omega
  rw [hmb] at a00
  have hna : mb + 1 ≠ mb := by omega
  rw [hmb] at b00
  have hnb : mb + 1 + 1 ≠ mb := by omega
  rw [hmb] at O1
  obtain ⟨m0, m1, m2, m3, m4⟩ := O1.cells
  try simp only [hmb]
  go_wp2_with fail
  refine (hsm _).mono ?_; rintro e V2 ⟨rfl, q2⟩
  have B2 := B1.trans (q2.mono B1.size)
  have O2 := O1.keep q2
  have a000 := a00.keep q2
  have b000 := b00.keep q2
  clear q2 B1 O1 m0 m1 m2 m3 m4 hsm a00 b00
  obtain ⟨m0, m1, m2, m3, m4⟩ := O2.cells
  obtain ⟨f0, f1, f2, f3, f4⟩ := O2.thaw
  have O := O2.set (.int .i64 W) (.int .i64 D) (.int .i64 H) (.slice mp N mc) (.slice sp sn sc)
  have a := a000.set5 hna (.int .i64 W) (.int .i64 D) (.int .i64 H) (.slice mp N mc) (.slice sp sn sc)
  have b := b000.set5 hnb (.int .i64 W) (.int .i64 D) (.int .i64 H) (.slice mp N mc) (.slice sp sn sc)
  have HBs := below_set5 B2 hwm (.int .i64 W) (.int .i64 D) (.int .i64 H) (.slice mp N mc) (.slice sp sn sc)
  clear O2 B2 a000 b000
  go_upto_region 3 with fail
  clear m0 m1 m2 m3 m4 f0 f1 f2 f3 f4
  generalize ((((V2.setCell ⟨mb, 0, none⟩ (.int .i64 W)).setCell ⟨mb, 1, none⟩ (.int .i64 D)).setCell ⟨mb, 2, none⟩ (.int .i64 H)).setCell ⟨mb, 3, none⟩ (.slice mp N mc)).setCell ⟨mb, 4, none⟩ (.slice sp sn sc) = U at *
  have HB := hid HBs
  have HM := hid (HM0.out.keep HBs)
  clear HBs HM0
  obtain ⟨R, hR⟩ := (mpOf W D H N mf).roomOf
  obtain ⟨p1, p2, p3, q1, q2, q3, hsp⟩ : ∃ X1 Y1 Z1 C1 C2 C3, Slid R a1 a2 a3 (fclamp b1 32768) (fclamp b2 32768) (fclamp b3 32768) X1 Y1 Z1 C1 C2 C3 := ⟨_, _, _, _, _, _, Slid.mk' _ _ _ _ _ _ _⟩
  obtain ⟨hp1, hp2, hp3⟩ := hsp.i64 ha1 ha2 ha3
  have HSp := hid hsp
  clear hsp
  obtain ⟨m0, m1, m2, m3, m4⟩ := O.cells
  obtain ⟨ca0, ca1, ca2⟩ := a.cells
  obtain ⟨cb0, cb1, cb2⟩ := b.cells
  go_wp2_with fail
  refine (traceSlide W D H mp N mc mf sp sn sc R hR a1 a2 a3 b1 b2 b3 ha1 ha2 ha3 hb1 hb2 hb3 _ _ _ _ _ _ HSp.out _ HM.out).mono ?_; rintro e V3 ⟨rfl, bq⟩
  replace O := O.keep bq
  replace a := a.keep bq
  replace b := b.keep bq
  replace HB := hid (btrans HB.out bq)
  replace HM := hid (HM.out.keep bq)
  clear bq
  clear m0 m1 m2 m3 m4 ca0 ca1 ca2 cb0 cb1 cb2
  go_upto_region 4 with fail
  have hnew := O3.new V3 27 (.int .i64 p1) (.int .i64 p2) (.int .i64 p3)
  have p := hnew.alloc (.cells #[.bool q1, .bool q2, .bool q3] 30)
  have q := O3.new (V3.alloc (.cells #[.int .i64 p1, .int .i64 p2, .int .i64 p3] 27)) 30 (.bool q1) (.bool q2) (.bool q3)
  have hz : (V3.alloc (.cells #[.int .i64 p1, .int .i64 p2, .int .i64 p3] 27)).heap.size = V3.heap.size + 1 := by simp
  rw [hz] at q
  have bqq : Below V3.heap.size V3 ((V3.alloc (.cells #[.int .i64 p1, .int .i64 p2, .int .i64 p3] 27)).alloc (.cells #[.bool q1, .bool q2, .bool q3] 30)) := ((Below.refl _ _).alloc (Nat.le_refl _) _).alloc (by simp) _
  replace O := O.keep bqq
  replace a := a.keep bqq
  replace b := b.keep bqq
  replace HB := hid (btrans HB.out bqq)
  replace HM := hid (HM.out.keep bqq)
  clear bqq hnew hz
  obtain ⟨kp, hkp⟩ : ∃ b, V3.heap.size = b := ⟨_, rfl⟩
  rw [hkp] at p q
  try simp only [hkp]
  generalize (V3.alloc (.cells #[.int .i64 p1, .int .i64 p2, .int .i64 p3] 27)).alloc (.cells #[.bool q1, .bool q2, .bool q3] 30) = U1 at *
  clear hkp
  obtain ⟨m0, m1, m2, m3, m4⟩ := O.cells
  obtain ⟨ca0, ca1, ca2⟩ := a.cells
  obtain ⟨cb0, cb1, cb2⟩ := b.cells
  go_wp2_with fail
  refine (refSlide W D H mp N mc mf sp sn sc R hR a1 a2 a3 b1 b2 b3 ha1 ha2 ha3 hb1 hb2 hb3 _ _ _ _ _ _ HSp.out _ HM.out).mono ?_; rintro e V4 ⟨rfl, bq⟩
  replace O := O.keep bq
  replace a := a.keep bq
  replace b := b.keep bq
  replace p := p.keep bq
  replace q := q.keep bq
  replace HB := hid (btrans HB.out bq)
  replace HM := hid (HM.out.keep bq)
  clear bq
  clear m0 m1 m2 m3 m4 ca0 ca1 ca2 cb0 cb1 cb2
  go_upto_region 5 with fail
  have hnew := O3.new V4 27 (.int .i64 p1) (.int .i64 p2) (.int .i64 p3)
  have r := hnew.alloc (.cells #[.bool q1, .bool q2, .bool q3] 30)
  have s := O3.new (V4.alloc (.cells #[.int .i64 p1, .int .i64 p2, .int .i64 p3] 27)) 30 (.bool q1) (.bool q2) (.bool q3)
  have hz : (V4.alloc (.cells #[.int .i64 p1, .int .i64 p2, .int .i64 p3] 27)).heap.size = V4.heap.size + 1 := by simp
  rw [hz] at s
  have bqq : Below V4.heap.size V4 ((V4.alloc (.cells #[.int .i64 p1, .int .i64 p2, .int .i64 p3] 27)).alloc (.cells #[.bool q1, .bool q2, .bool q3] 30)) := ((Below.refl _ _).alloc (Nat.le_refl _) _).alloc (by simp) _
  replace O := O.keep bqq
  replace a := a.keep bqq
  replace b := b.keep bqq
  replace p := p.keep bqq
  replace q := q.keep bqq
  replace HB := hid (btrans HB.out bqq)
  replace HM := hid (HM.out.keep bqq)
  clear bqq hnew hz
  obtain ⟨kr, hkr⟩ : ∃ b, V4.heap.size = b := ⟨_, rfl⟩
  rw [hkr] at r s
  try simp only [hkr]
  generalize (V4.alloc (.cells #[.int .i64 p1, .int .i64 p2, .int .i64 p3] 27)).alloc (.cells #[.bool q1, .bool q2, .bool q3] 30) = U2 at *
  clear hkr
  obtain ⟨m0, m1, m2, m3, m4⟩ := O.cells
  obtain ⟨ca0, ca1, ca2⟩ := a.cells
  obtain ⟨cp0, cp1, cp2⟩ := p.cells
  obtain ⟨cq0, cq1, cq2⟩ := q.cells
  obtain ⟨cr0, cr1, cr2⟩ := r.cells
  obtain ⟨cs0, cs1, cs2⟩ := s.cells
  have rm0 := stays m0
  have rm1 := stays m1
  have rm2 := stays m2
  have rm3 := stays m3
  have rm4 := stays m4
  have ra0 := stays ca0
  have ra1 := stays ca1
  have ra2 := stays ca2
  have rp0 := stays cp0
  have rp1 := stays cp1
  have rp2 := stays cp2
  have rq0 := stays cq0
  have rq1 := stays cq1
  have rq2 := stays cq2
  have rr0 := stays cr0
  have rr1 := stays cr1
  have rr2 := stays cr2
  have rs0 := stays cs0
  have rs1 := stays cs1
  have rs2 := stays cs2
  clear m0 m1 m2 m3 m4 ca0 ca1 ca2 cp0 cp1 cp2 cq0 cq1 cq2 cr0 cr1 cr2 cs0 cs1 cs2
  have k1 := hid (fun V (hV : Below U2.heap.size U2 V) => traceFree W D H mp N mc mf sp sn sc R hR a1 a2 a3 ha1 ha2 ha3 V (HM.out.keep hV))
  have k2 := hid (fun V (hV : Below U2.heap.size U2 V) => refFree W D H mp N mc mf sp sn sc R hR a1 a2 a3 ha1 ha2 ha3 V (HM.out.keep hV))
  obtain ⟨f, hf⟩ : ∃ f, R a1 a2 a3 = f := ⟨_, rfl⟩
  rw [hf] at k1 k2
  clear hf
  have he := fun W => eq3b q1 q2 q3 q1 q2 q3 W
  simp only [beq_self_eq_true, Bool.and_self] at he
  refine region_held (fun w' => Below U2.heap.size U2 w') 21 rfl (by kernel_rfl) (below_drewN U2 1) ?_
  intro hHeld
  refine takeO 0 (some 29) (v := ?v1) rfl rfl (by kernel_rfl) (by kernel_rfl) (by kernel_rfl) (Or.inl ⟨by rfl, ?y1⟩) hHeld ?r1
  case y1 => (intro w' hSw; (try dsimp only at hSw); go_simp; try with_reducible rfl)
  try simp only [Act.put, List.setIfInBounds_toArray, List.set_cons_zero, List.set_cons_succ]
  refine takeO 1 (some 30) (v := ?v2) rfl rfl (by kernel_rfl) (by kernel_rfl) (by kernel_rfl) (Or.inl ⟨by rfl, ?y2⟩) hHeld ?r2
  case y2 => (intro w' hSw; (try dsimp only at hSw); go_simp; try with_reducible rfl)
  try simp only [Act.put, List.setIfInBounds_toArray, List.set_cons_zero, List.set_cons_succ]
  refine takeO 2 (some 31) (v := ?v3) rfl rfl (by kernel_rfl) (by kernel_rfl) (by kernel_rfl) (Or.inl ⟨by rfl, ?y3⟩) hHeld ?r3
  case y3 => (intro w' hSw; (try dsimp only at hSw); go_simp; try with_reducible rfl)
  try simp only [Act.put, List.setIfInBounds_toArray, List.set_cons_zero, List.set_cons_succ]
  refine takeO 3 (some 32) (v := ?v4) rfl rfl (by kernel_rfl) (by kernel_rfl) (by kernel_rfl) (Or.inl ⟨by rfl, ?y4⟩) hHeld ?r4
  case y4 => (intro w' hSw; (try dsimp only at hSw); go_simp; try with_reducible rfl)
  try simp only [Act.put, List.setIfInBounds_toArray, List.set_cons_zero, List.set_cons_succ]
  refine takeO 5 (some 34) (v := ?v5) rfl rfl (by kernel_rfl) (by kernel_rfl) (by kernel_rfl) (Or.inl ⟨by rfl, ?y5⟩) hHeld ?r5
  case y5 => (intro w' hSw; (try dsimp only at hSw); go_simp; try with_reducible rfl)
  try simp only [Act.put, List.setIfInBounds_toArray, List.set_cons_zero, List.set_cons_succ]
  refine takeO 6 (some 35) (v := ?v6) rfl rfl (by kernel_rfl) (by kernel_rfl) (by kernel_rfl) (Or.inl ⟨by rfl, ?y6⟩) hHeld ?r6
  case y6 => (intro w' hSw; (try dsimp only at hSw); go_simp; try with_reducible rfl)
  try simp only [Act.put, List.setIfInBounds_toArray, List.set_cons_zero, List.set_cons_succ]
  refine wpAnyH_ready (rs := [4]) (by kernel_rfl) (by simp) ?_
  refine AllReadyH.cons rfl (fun K hK => ?_) AllReadyH.nil
  go_simp
  refine (k1.out _ (below_drewN U2 1)).mono ?_
  rintro e V1 ⟨rfl, q1⟩
  dsimp only
  have HB1 : Below U2.heap.size U2 V1 := Below.trans (below_drewN U2 1) q1
  refine hK.out _ _ HB1 (fun hHeld => ?_)
  clear hK K q1
  refine wpAnyH_ready (rs := [7]) (by kernel_rfl) (by simp) ?_
  refine AllReadyH.cons rfl (fun K hK => ?_) AllReadyH.nil
  go_simp
  refine (k2.out _ HB1).mono ?_
  rintro e V2 ⟨rfl, q2⟩
  dsimp only
  have HB2 := btrans HB1 q2
  refine hK.out _ _ HB2 (fun hHeld => ?_)
  clear hK K q2 HB1
  refine takeO 8 (some 37) (v := ?v7) rfl rfl (by kernel_rfl) (by kernel_rfl) (by kernel_rfl) (Or.inl ⟨by rfl, ?y7⟩) hHeld ?r7
  case y7 => (intro w' hSw; (try dsimp only at hSw); go_simp; try with_reducible rfl)
  try simp only [Act.put, List.setIfInBounds_toArray, List.set_cons_zero, List.set_cons_succ]
  refine takeO 9 (some 38) (v := ?v8) rfl rfl (by kernel_rfl) (by kernel_rfl) (by kernel_rfl) (Or.inl ⟨by rfl, ?y8⟩) hHeld ?r8
  case y8 => (intro w' hSw; (try dsimp only at hSw); go_simp; try with_reducible rfl)
  try simp only [Act.put, List.setIfInBounds_toArray, List.set_cons_zero, List.set_cons_succ]
  refine takeO 10 (some 39) (v := ?v9) rfl rfl (by kernel_rfl) (by kernel_rfl) (by kernel_rfl) (Or.inl ⟨by rfl, ?y9⟩) hHeld ?r9
  case y9 => (intro w' hSw; (try dsimp only at hSw); go_simp; try with_reducible rfl)
  try simp only [Act.put, List.setIfInBounds_toArray, List.set_cons_zero, List.set_cons_succ]
  refine takeO 11 (some 40) (v := ?v10) rfl rfl (by kernel_rfl) (by kernel_rfl) (by kernel_rfl) (Or.inl ⟨by rfl, ?y10⟩) hHeld ?r10
  case y10 => (intro w' hSw; (try dsimp only at hSw); go_simp; try with_reducible rfl)
  try simp only [Act.put, List.setIfInBounds_toArray, List.set_cons_zero, List.set_cons_succ]
  refine takeO 12 (some 41) (v := ?v11) rfl rfl (by kernel_rfl) (by kernel_rfl) (by kernel_rfl) (Or.inl ⟨by rfl, ?y11⟩) hHeld ?r11
  case y11 => (intro w' hSw; (try dsimp only at hSw); go_simp; try with_reducible rfl)
  try simp only [Act.put, List.setIfInBounds_toArray, List.set_cons_zero, List.set_cons_succ]
  refine takeO 13 (some 42) (v := ?v12) rfl rfl (by kernel_rfl) (by kernel_rfl) (by kernel_rfl) (Or.inl ⟨by rfl, ?y12⟩) hHeld ?r12
  case y12 => (intro w' hSw; (try dsimp only at hSw); go_simp; try with_reducible rfl)
  try simp only [Act.put, List.setIfInBounds_toArray, List.set_cons_zero, List.set_cons_succ]
  refine takeO 14 (some 43) (v := ?v13) rfl rfl (by kernel_rfl) (by kernel_rfl) (by kernel_rfl) (Or.inl ⟨by rfl, ?y13⟩) hHeld ?r13
  case y13 => (intro w' hSw; (try dsimp only at hSw); go_simp; try with_reducible rfl)
  try simp only [Act.put, List.setIfInBounds_toArray, List.set_cons_zero, List.set_cons_succ]
  refine takeO 15 (some 44) (v := ?v14) rfl rfl (by kernel_rfl) (by kernel_rfl) (by kernel_rfl) (Or.inl ⟨by rfl, ?y14⟩) hHeld ?r14
  case y14 => (intro w' hSw; (try dsimp only at hSw); go_simp; try with_reducible rfl)
  try simp only [Act.put, List.setIfInBounds_toArray, List.set_cons_zero, List.set_cons_succ]
  refine takeO 16 (some 45) (v := ?v15) rfl rfl (by kernel_rfl) (by kernel_rfl) (by kernel_rfl) (Or.inl ⟨by rfl, ?y15⟩) hHeld ?r15
  case y15 => (intro w' hSw; (try dsimp only at hSw); go_simp; try with_reducible rfl)
  try simp only [Act.put, List.setIfInBounds_toArray, List.set_cons_zero, List.set_cons_succ]
  refine takeO 17 (some 46) (v := ?v16) rfl rfl (by kernel_rfl) (by kernel_rfl) (by kernel_rfl) (Or.inl ⟨by rfl, ?y16⟩) hHeld ?r16
  case y16 => (intro w' hSw; (try dsimp only at hSw); go_simp; try with_reducible rfl)
  try simp only [Act.put, List.setIfInBounds_toArray, List.set_cons_zero, List.set_cons_succ]
  refine takeO 18 (some 47) (v := ?v17) rfl rfl (by kernel_rfl) (by kernel_rfl) (by kernel_rfl) (Or.inl ⟨by rfl, ?y17⟩) hHeld ?r17
  case y17 => (intro w' hSw; (try dsimp only at hSw); go_simp; try with_reducible rfl)
  try simp only [Act.put, List.setIfInBounds_toArray, List.set_cons_zero, List.set_cons_succ]
  refine takeO 19 (some 48) (v := ?v18) rfl rfl (by kernel_rfl) (by kernel_rfl) (by kernel_rfl) (Or.inl ⟨by rfl, ?y18⟩) hHeld ?r18
  case y18 => (intro w' hSw; (try dsimp only at hSw); go_simp; try with_reducible rfl)
  try simp only [Act.put, List.setIfInBounds_toArray, List.set_cons_zero, List.set_cons_succ]
  refine takeO 20 (some 6) (v := ?v19) rfl rfl (by kernel_rfl) (by kernel_rfl) (by kernel_rfl) (Or.inl ⟨by rfl, ?y19⟩) hHeld ?r19
  case y19 => (intro w' hSw; (try dsimp only at hSw); go_simp; try with_reducible rfl)
  try simp only [Act.put, List.setIfInBounds_toArray, List.set_cons_zero, List.set_cons_succ]
  refine wpAnyH_done (by kernel_rfl) (Only.on ?_) _
  clear hHeld
  go_wp2
  go_ret
  exact ⟨rfl, btrans HB.out HB2⟩
end Go.Proofs.Ytpghdfleffgilaa
