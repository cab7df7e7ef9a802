/- Layer 9 (grid): the walk of the law GridSights. -/
import Derived.Test.YtfcaekboonnmaaaGrCc
namespace Go.Proofs.Ytfcaekboonnmaaa
open Go.RowKit
set_option linter.unusedVariables false
set_option linter.unusedSimpArgs false
attribute [local go_sem ↓] Go.wp_at_zero Go.wp_at_succ

set_option maxRecDepth 100000 in
set_option maxHeartbeats 4000000 in
theorem gridSights_walk (W D H : Int) (mp : Option Addr) (mn mc : Nat) (mf : Nat → Bool) (sp : Option Addr) (sn sc : Nat) (X Y Z : Nat → Int) (a1 a2 a3 : Int) (b1 b2 b3 : Int) (w : World) (hW : I64 W) (hD : I64 D) (hH : I64 H) (hm : Arg w mp mn mc fun i => .bool (mf i)) (hv : ArgW w sp sn sc X Y Z) (hX : ∀ i, I64 (X i) ∧ I64 (Y i) ∧ I64 (Z i)) (ha1 : I64 a1) (ha2 : I64 a2) (ha3 : I64 a3) (hb1 : I64 b1) (hb2 : I64 b2) (hb3 : I64 b3) :
    Calls Try.prog 4 #[.agg #[.int .i64 W, .int .i64 D, .int .i64 H, .slice mp mn mc, .slice sp sn sc], .agg #[.int .i64 a1, .int .i64 a2, .int .i64 a3], .agg #[.int .i64 b1, .int .i64 b2, .int .i64 b3]] w fun e w' => e = .returned (.bool true) ∧ Below w.heap.size w w' := by
  have hle := hm.le; have hmost := hm.most; have hsle := hv.le; have hsmost := hv.most
  obtain ⟨N, hN⟩ : ∃ N, min mn 32768 = N := ⟨_, rfl⟩
  obtain ⟨K, hK⟩ : ∃ N, min sn 70 = N := ⟨_, rfl⟩
  have hsm := fun V => lawSmall W D H mp mn mc mf sp sn sc hle hmost hsle hsmost V
  rw [hN, hK] at hsm
  have HM0 := hid (hm.cut (show N ≤ mn by omega))
  have HV0 := hid (hv.cut (show K ≤ sn by omega))
  have hsh := lawShown
  have hN1 : N ≤ 32768 := by omega
  have hK1 : K ≤ 70 := by omega
  unfold maxLen at hmost hsmost
  clear hm hv hN hK
  have B0 : Below w.heap.size w (((w.alloc (.cells #[.int .i64 W, .int .i64 D, .int .i64 H, .slice mp mn mc, .slice sp sn sc] 25)).alloc (.cells #[.int .i64 a1, .int .i64 a2, .int .i64 a3] 27)).alloc (.cells #[.int .i64 b1, .int .i64 b2, .int .i64 b3] 27)) := (((Below.refl _ _).alloc (Nat.le_refl _) _).alloc (by simp) _).alloc (by simp; omega) _
  have O0 : O5 (((w.alloc (.cells #[.int .i64 W, .int .i64 D, .int .i64 H, .slice mp mn mc, .slice sp sn sc] 25)).alloc (.cells #[.int .i64 a1, .int .i64 a2, .int .i64 a3] 27)).alloc (.cells #[.int .i64 b1, .int .i64 b2, .int .i64 b3] 27)) (w.heap.size) (.int .i64 W) (.int .i64 D) (.int .i64 H) (.slice mp mn mc) (.slice sp sn sc) := ((O5.new _ _ _ _ _ _).alloc _).alloc _
  have a0 : B3 (((w.alloc (.cells #[.int .i64 W, .int .i64 D, .int .i64 H, .slice mp mn mc, .slice sp sn sc] 25)).alloc (.cells #[.int .i64 a1, .int .i64 a2, .int .i64 a3] 27)).alloc (.cells #[.int .i64 b1, .int .i64 b2, .int .i64 b3] 27)) (w.heap.size + 1) 27 a1 a2 a3 := (B3.new' _ _ _ _ _ (by simp)).alloc _
  have b0 : B3 (((w.alloc (.cells #[.int .i64 W, .int .i64 D, .int .i64 H, .slice mp mn mc, .slice sp sn sc] 25)).alloc (.cells #[.int .i64 a1, .int .i64 a2, .int .i64 a3] 27)).alloc (.cells #[.int .i64 b1, .int .i64 b2, .int .i64 b3] 27)) (w.heap.size + 1 + 1) 27 b1 b2 b3 := B3.new' _ _ _ _ _ (by simp)
  go_enter Try.func4, Try.ntmps4
  go_wp2_with fail
  refine (hsh _).mono ?_; rintro e V1 ⟨rfl, q1⟩
  have B1 := B0.trans (q1.mono B0.size)
  have O1 := O0.keep q1
  have a00 := a0.keep q1
  have b00 := b0.keep q1
  clear q1 B0 O0 a0 b0
  obtain ⟨mb, hmb⟩ : ∃ b, w.heap.size = b := ⟨_, rfl⟩
  have hwm : w.heap.size ≤ mb := by omega
  rw [hmb] at a00
  have hna : mb + 1 ≠ mb := by omega
  rw [hmb] at b00
  have hnb : mb + 1 + 1 ≠ mb := by omega
  rw [hmb] at O1
  obtain ⟨m0, m1, m2, m3, m4⟩ := O1.cells
  try rw [hmb]
  try simp only [hmb]
  go_wp2_with fail
  refine (hsm _).mono ?_; rintro e V2 ⟨rfl, q2⟩
  have B2 := B1.trans (q2.mono B1.size)
  have O2 := O1.keep q2
  have a000 := a00.keep q2
  have b000 := b00.keep q2
  clear q2 B1 O1 m0 m1 m2 m3 m4 hsm hsh a00 b00
  obtain ⟨m0, m1, m2, m3, m4⟩ := O2.cells
  obtain ⟨f0, f1, f2, f3, f4⟩ := O2.thaw
  have O3 := O2.set (.int .i64 W) (.int .i64 D) (.int .i64 H) (.slice mp N mc) (.slice sp K sc)
  have aq := a000.set5 hna (.int .i64 W) (.int .i64 D) (.int .i64 H) (.slice mp N mc) (.slice sp K sc)
  have bq := b000.set5 hnb (.int .i64 W) (.int .i64 D) (.int .i64 H) (.slice mp N mc) (.slice sp K sc)
  have HBs := below_set5 B2 hwm (.int .i64 W) (.int .i64 D) (.int .i64 H) (.slice mp N mc) (.slice sp K sc)
  clear O2 B2 a000 b000
  go_upto_region 3 with fail
  clear m0 m1 m2 m3 m4 f0 f1 f2 f3 f4
  generalize ((((V2.setCell ⟨mb, 0, none⟩ (.int .i64 W)).setCell ⟨mb, 1, none⟩ (.int .i64 D)).setCell ⟨mb, 2, none⟩ (.int .i64 H)).setCell ⟨mb, 3, none⟩ (.slice mp N mc)).setCell ⟨mb, 4, none⟩ (.slice sp K sc) = U at *
  obtain ⟨m0, m1, m2, m3, m4⟩ := O3.cells
  obtain ⟨ca0, ca1, ca2⟩ := aq.cells
  obtain ⟨cb0, cb1, cb2⟩ := bq.cells
  have HB := hid HBs
  have HM := hid (HM0.out.keep HBs)
  have HV := hid (HV0.out.keep HBs)
  clear HBs HM0 HV0
  obtain ⟨s, hs⟩ := boolOf ((mpOf W D H N mf).Sees ⟨a1, a2, a3⟩ ⟨b1, b2, b3⟩)
  have HS := hid hs
  clear hs
  have r0 := stays m0
  have r1 := stays m1
  have r2 := stays m2
  have r3 := stays m3
  have r4 := stays m4
  have ra0 := stays ca0
  have ra1 := stays ca1
  have ra2 := stays ca2
  have rb0 := stays cb0
  have rb1 := stays cb1
  have rb2 := stays cb2
  have k1 := hid (fun V (hV : Below U.heap.size U V) => gridSight W D H mp N mc mf sp K sc a1 a2 a3 b1 b2 b3 ha1 ha2 ha3 hb1 hb2 hb3 V (HM.out.keep hV) s HS.out)
  have k2 := hid (fun V (hV : Below U.heap.size U V) => refSight W D H mp N mc mf sp K sc a1 a2 a3 b1 b2 b3 ha1 ha2 ha3 hb1 hb2 hb3 V (HM.out.keep hV) s HS.out)
  clear m0 m1 m2 m3 m4 ca0 ca1 ca2 cb0 cb1 cb2
  refine region_held (fun w' => Below U.heap.size U w') 13 rfl (by kernel_rfl) (below_drewN U 1) ?_
  intro hHeld
  refine takeO 0 (some 11) (v := ?v1) rfl rfl (by kernel_rfl) (by kernel_rfl) (by kernel_rfl) (Or.inl ⟨by rfl, ?y1⟩) hHeld ?r1
  case y1 => (intro w' hSw; (try dsimp only at hSw); go_simp; try with_reducible rfl)
  try simp only [Act.put, List.setIfInBounds_toArray, List.set_cons_zero, List.set_cons_succ]
  refine takeO 1 (some 12) (v := ?v2) rfl rfl (by kernel_rfl) (by kernel_rfl) (by kernel_rfl) (Or.inl ⟨by rfl, ?y2⟩) hHeld ?r2
  case y2 => (intro w' hSw; (try dsimp only at hSw); go_simp; try with_reducible rfl)
  try simp only [Act.put, List.setIfInBounds_toArray, List.set_cons_zero, List.set_cons_succ]
  refine takeO 2 (some 13) (v := ?v3) rfl rfl (by kernel_rfl) (by kernel_rfl) (by kernel_rfl) (Or.inl ⟨by rfl, ?y3⟩) hHeld ?r3
  case y3 => (intro w' hSw; (try dsimp only at hSw); go_simp; try with_reducible rfl)
  try simp only [Act.put, List.setIfInBounds_toArray, List.set_cons_zero, List.set_cons_succ]
  refine takeO 3 (some 14) (v := ?v4) rfl rfl (by kernel_rfl) (by kernel_rfl) (by kernel_rfl) (Or.inl ⟨by rfl, ?y4⟩) hHeld ?r4
  case y4 => (intro w' hSw; (try dsimp only at hSw); go_simp; try with_reducible rfl)
  try simp only [Act.put, List.setIfInBounds_toArray, List.set_cons_zero, List.set_cons_succ]
  refine takeO 4 (some 15) (v := ?v5) rfl rfl (by kernel_rfl) (by kernel_rfl) (by kernel_rfl) (Or.inl ⟨by rfl, ?y5⟩) hHeld ?r5
  case y5 => (intro w' hSw; (try dsimp only at hSw); go_simp; try with_reducible rfl)
  try simp only [Act.put, List.setIfInBounds_toArray, List.set_cons_zero, List.set_cons_succ]
  refine takeO 6 (some 17) (v := ?v6) rfl rfl (by kernel_rfl) (by kernel_rfl) (by kernel_rfl) (Or.inl ⟨by rfl, ?y6⟩) hHeld ?r6
  case y6 => (intro w' hSw; (try dsimp only at hSw); go_simp; try with_reducible rfl)
  try simp only [Act.put, List.setIfInBounds_toArray, List.set_cons_zero, List.set_cons_succ]
  refine takeO 7 (some 18) (v := ?v7) rfl rfl (by kernel_rfl) (by kernel_rfl) (by kernel_rfl) (Or.inl ⟨by rfl, ?y7⟩) hHeld ?r7
  case y7 => (intro w' hSw; (try dsimp only at hSw); go_simp; try with_reducible rfl)
  try simp only [Act.put, List.setIfInBounds_toArray, List.set_cons_zero, List.set_cons_succ]
  refine takeO 8 (some 19) (v := ?v8) rfl rfl (by kernel_rfl) (by kernel_rfl) (by kernel_rfl) (Or.inl ⟨by rfl, ?y8⟩) hHeld ?r8
  case y8 => (intro w' hSw; (try dsimp only at hSw); go_simp; try with_reducible rfl)
  try simp only [Act.put, List.setIfInBounds_toArray, List.set_cons_zero, List.set_cons_succ]
  refine wpAnyH_ready (rs := [5]) (by kernel_rfl) (by simp) ?_
  refine AllReadyH.cons rfl (fun K hK => ?_) AllReadyH.nil
  go_simp
  refine (k1.out _ (below_drewN U 1)).mono ?_
  rintro e V1 ⟨rfl, q1⟩
  dsimp only
  have HB1 : Below U.heap.size U V1 := Below.trans (below_drewN U 1) q1
  refine hK.out _ _ HB1 (fun hHeld => ?_)
  clear hK K q1
  refine wpAnyH_ready (rs := [9]) (by kernel_rfl) (by simp) ?_
  refine AllReadyH.cons rfl (fun K hK => ?_) AllReadyH.nil
  go_simp
  refine (k2.out _ HB1).mono ?_
  rintro e V2 ⟨rfl, q2⟩
  dsimp only
  have HB2 := btrans HB1 q2
  refine hK.out _ _ HB2 (fun hHeld => ?_)
  clear hK K q2 HB1
  refine takeO 10 (some 21) (v := ?v9) rfl rfl (by kernel_rfl) (by kernel_rfl) (by kernel_rfl) (Or.inl ⟨by rfl, ?y9⟩) hHeld ?r9
  case y9 => (intro w' hSw; (try dsimp only at hSw); go_simp; try with_reducible rfl)
  try simp only [Act.put, List.setIfInBounds_toArray, List.set_cons_zero, List.set_cons_succ]
  refine takeO 11 (some 22) (v := ?v10) rfl rfl (by kernel_rfl) (by kernel_rfl) (by kernel_rfl) (Or.inl ⟨by rfl, ?y10⟩) hHeld ?r10
  case y10 => (intro w' hSw; (try dsimp only at hSw); go_simp; try with_reducible rfl)
  try simp only [Act.put, List.setIfInBounds_toArray, List.set_cons_zero, List.set_cons_succ]
  refine takeO 12 (some 6) (v := ?v11) rfl rfl (by kernel_rfl) (by kernel_rfl) (by kernel_rfl) (Or.inl ⟨by rfl, ?y11⟩) hHeld ?r11
  case y11 => (intro w' hSw; (try dsimp only at hSw); go_simp; try with_reducible rfl)
  try simp only [Act.put, List.setIfInBounds_toArray, List.set_cons_zero, List.set_cons_succ]
  refine wpAnyH_done (by kernel_rfl) (Only.on ?_) _
  clear hHeld
  go_wp2
  go_ret
  exact ⟨rfl, hmb ▸ btrans HB.out HB2⟩
end Go.Proofs.Ytfcaekboonnmaaa
