/- Layer 9 (grid): the walk of the law GridHalves. -/
import Derived.Test.YtfcaekboonnmaaaGwB
namespace Go.Proofs.Ytfcaekboonnmaaa
open Go.RowKit
set_option linter.unusedVariables false
set_option linter.unusedSimpArgs false
attribute [local go_sem ↓] Go.wp_at_zero Go.wp_at_succ

set_option maxRecDepth 100000 in
set_option maxHeartbeats 4000000 in
theorem gridHalves_walk (W D H : Int) (mp : Option Addr) (mn mc : Nat) (mf : Nat → Bool) (sp : Option Addr) (sn sc : Nat) (X Y Z : Nat → Int) (a1 a2 a3 : Int) (b1 b2 b3 : Int) (w : World) (hW : I64 W) (hD : I64 D) (hH : I64 H) (hm : Arg w mp mn mc fun i => .bool (mf i)) (hv : ArgW w sp sn sc X Y Z) (hX : ∀ i, I64 (X i) ∧ I64 (Y i) ∧ I64 (Z i)) (ha1 : I64 a1) (ha2 : I64 a2) (ha3 : I64 a3) (hb1 : I64 b1) (hb2 : I64 b2) (hb3 : I64 b3) :
    Calls Try.prog 6 #[.agg #[.int .i64 W, .int .i64 D, .int .i64 H, .slice mp mn mc, .slice sp sn sc], .agg #[.int .i64 a1, .int .i64 a2, .int .i64 a3], .agg #[.int .i64 b1, .int .i64 b2, .int .i64 b3]] w fun e w' => e = .returned (.bool true) ∧ Below w.heap.size w w' := by
  have l1 := ha1.lo; have l2 := ha1.hi; have l3 := ha2.lo; have l4 := ha2.hi; have l5 := ha3.lo; have l6 := ha3.hi
  have l7 := hb1.lo; have l8 := hb1.hi; have l9 := hb2.lo; have l10 := hb2.hi; have l11 := hb3.lo; have l12 := hb3.hi
  have hmn := fun ts t V => min6 (a := a1) (b := a2) (c := a3) (d := b1) (e := b2) (f := b3) ts t V
  have hmx := fun ts t V => max6 (a := a1) (b := a2) (c := a3) (d := b1) (e := b2) (f := b3) ts t V
  obtain ⟨p, hp⟩ : ∃ p, min (min (min (min (min a1 a2) a3) b1) b2) b3 = p := ⟨_, rfl⟩
  obtain ⟨q, hq⟩ : ∃ p, max (max (max (max (max a1 a2) a3) b1) b2) b3 = p := ⟨_, rfl⟩
  rw [hp] at hmn
  rw [hq] at hmx
  have HP := hid hp; have HQ := hid hq
  clear hp hq
  have hle := hm.le; have hmost := hm.most; have hsle := hv.le; have hsmost := hv.most
  obtain ⟨N, hN⟩ : ∃ N, min mn 32768 = N := ⟨_, rfl⟩
  obtain ⟨K, hK⟩ : ∃ N, min sn 70 = N := ⟨_, rfl⟩
  have hsm := fun V => lawSmall W D H mp mn mc mf sp sn sc hle hmost hsle hsmost V
  rw [hN, hK] at hsm
  have HM0 := hid (hm.cut (show N ≤ mn by omega))
  have HV0 := hid (hv.cut (show K ≤ sn by omega))
  have hsh := lawShown
  have hN1 : N ≤ 32768 := by omega
  have hK1 : K ≤ 70 := by omega
  unfold maxLen at hmost hsmost
  clear hm hv hN hK
  have B0 : Below w.heap.size w (((w.alloc (.cells #[.int .i64 W, .int .i64 D, .int .i64 H, .slice mp mn mc, .slice sp sn sc] 25)).alloc (.cells #[.int .i64 a1, .int .i64 a2, .int .i64 a3] 27)).alloc (.cells #[.int .i64 b1, .int .i64 b2, .int .i64 b3] 27)) := (((Below.refl _ _).alloc (Nat.le_refl _) _).alloc (by simp) _).alloc (by simp; omega) _
  have O0 : O5 (((w.alloc (.cells #[.int .i64 W, .int .i64 D, .int .i64 H, .slice mp mn mc, .slice sp sn sc] 25)).alloc (.cells #[.int .i64 a1, .int .i64 a2, .int .i64 a3] 27)).alloc (.cells #[.int .i64 b1, .int .i64 b2, .int .i64 b3] 27)) (w.heap.size) (.int .i64 W) (.int .i64 D) (.int .i64 H) (.slice mp mn mc) (.slice sp sn sc) := ((O5.new _ _ _ _ _ _).alloc _).alloc _
  have a0 : B3 (((w.alloc (.cells #[.int .i64 W, .int .i64 D, .int .i64 H, .slice mp mn mc, .slice sp sn sc] 25)).alloc (.cells #[.int .i64 a1, .int .i64 a2, .int .i64 a3] 27)).alloc (.cells #[.int .i64 b1, .int .i64 b2, .int .i64 b3] 27)) (w.heap.size + 1) 27 a1 a2 a3 := (B3.new' _ _ _ _ _ (by simp)).alloc _
  have b0 : B3 (((w.alloc (.cells #[.int .i64 W, .int .i64 D, .int .i64 H, .slice mp mn mc, .slice sp sn sc] 25)).alloc (.cells #[.int .i64 a1, .int .i64 a2, .int .i64 a3] 27)).alloc (.cells #[.int .i64 b1, .int .i64 b2, .int .i64 b3] 27)) (w.heap.size + 1 + 1) 27 b1 b2 b3 := B3.new' _ _ _ _ _ (by simp)
  go_enter Try.func6, Try.ntmps6
  go_wp2_with fail
  refine (hsh _).mono ?_; rintro e V1 ⟨rfl, q1⟩
  have B1 := B0.trans (q1.mono B0.size)
  have O1 := O0.keep q1
  have a00 := a0.keep q1
  have b00 := b0.keep q1
  clear q1 B0 O0 a0 b0
  obtain ⟨mb, hmb⟩ : ∃ b, w.heap.size = b := ⟨_, rfl⟩
  have hwm : w.heap.size ≤ mb := by omega
  rw [hmb] at a00
  have hna : mb + 1 ≠ mb := by omega
  rw [hmb] at b00
  have hnb : mb + 1 + 1 ≠ mb := by omega
  rw [hmb] at O1
  obtain ⟨m0, m1, m2, m3, m4⟩ := O1.cells
  try rw [hmb]
  try simp only [hmb]
  go_wp2_with fail
  refine (hsm _).mono ?_; rintro e V2 ⟨rfl, q2⟩
  have B2 := B1.trans (q2.mono B1.size)
  have O2 := O1.keep q2
  have a000 := a00.keep q2
  have b000 := b00.keep q2
  clear q2 B1 O1 m0 m1 m2 m3 m4 hsm hsh a00 b00
  obtain ⟨m0, m1, m2, m3, m4⟩ := O2.cells
  obtain ⟨f0, f1, f2, f3, f4⟩ := O2.thaw
  have O3 := O2.set (.int .i64 W) (.int .i64 D) (.int .i64 H) (.slice mp N mc) (.slice sp K sc)
  have aq := a000.set5 hna (.int .i64 W) (.int .i64 D) (.int .i64 H) (.slice mp N mc) (.slice sp K sc)
  have bq := b000.set5 hnb (.int .i64 W) (.int .i64 D) (.int .i64 H) (.slice mp N mc) (.slice sp K sc)
  have HBs := below_set5 B2 hwm (.int .i64 W) (.int .i64 D) (.int .i64 H) (.slice mp N mc) (.slice sp K sc)
  clear O2 B2 a000 b000
  go_upto_region 3 with fail
  clear m0 m1 m2 m3 m4 f0 f1 f2 f3 f4
  generalize ((((V2.setCell ⟨mb, 0, none⟩ (.int .i64 W)).setCell ⟨mb, 1, none⟩ (.int .i64 D)).setCell ⟨mb, 2, none⟩ (.int .i64 H)).setCell ⟨mb, 3, none⟩ (.slice mp N mc)).setCell ⟨mb, 4, none⟩ (.slice sp K sc) = U at *
  obtain ⟨m0, m1, m2, m3, m4⟩ := O3.cells
  obtain ⟨ca0, ca1, ca2⟩ := aq.cells
  obtain ⟨cb0, cb1, cb2⟩ := bq.cells
  have HB := hid HBs
  have HM := hid (HM0.out.keep HBs)
  have HV := hid (HV0.out.keep HBs)
  clear HBs HM0 HV0
  by_cases hp1 : p < 0
  · go_wp2
    go_ret
    exact ⟨rfl, hmb ▸ HB.out⟩
  by_cases hq1 : 1099511627776 < q
  · go_wp2
    go_ret
    exact ⟨rfl, hmb ▸ HB.out⟩
  have hb : (0 ≤ a1 ∧ a1 ≤ 1099511627776) ∧ (0 ≤ a2 ∧ a2 ≤ 1099511627776) ∧ (0 ≤ a3 ∧ a3 ≤ 1099511627776) ∧ (0 ≤ b1 ∧ b1 ≤ 1099511627776) ∧ (0 ≤ b2 ∧ b2 ≤ 1099511627776) ∧ (0 ≤ b3 ∧ b3 ≤ 1099511627776) := by
    have := HP.out; have := HQ.out; omega
  obtain ⟨⟨p1, p2⟩, ⟨p3, p4⟩, ⟨p5, p6⟩, ⟨p7, p8⟩, ⟨p9, p10⟩, ⟨p11, p12⟩⟩ := hb
  have w1 : IntKind.i64.wrap (a1 + b1) = a1 + b1 := wrapI (by omega) (by omega)
  have w2 : IntKind.i64.wrap (a2 + b2) = a2 + b2 := wrapI (by omega) (by omega)
  have w3 : IntKind.i64.wrap (a3 + b3) = a3 + b3 := wrapI (by omega) (by omega)
  obtain ⟨t1, ht1⟩ : ∃ t, Int.tmod (a1 + b1) 2 = t := ⟨_, rfl⟩
  obtain ⟨t2, ht2⟩ : ∃ t, Int.tmod (a2 + b2) 2 = t := ⟨_, rfl⟩
  obtain ⟨t3, ht3⟩ : ∃ t, Int.tmod (a3 + b3) 2 = t := ⟨_, rfl⟩
  have g1 : (a1 + b1) % 2 = t1 := by rw [← ht1, Int.tmod_eq_emod_of_nonneg (by omega)]
  have g2 : (a2 + b2) % 2 = t2 := by rw [← ht2, Int.tmod_eq_emod_of_nonneg (by omega)]
  have g3 : (a3 + b3) % 2 = t3 := by rw [← ht3, Int.tmod_eq_emod_of_nonneg (by omega)]
  have G1 := hid g1; have G2 := hid g2; have G3 := hid g3
  clear g1 g2 g3
  by_cases z1 : t1 = 0
  case neg =>
    have z1' : (t1 == 0) = false := beq_eq_false_iff_ne.2 z1
    go_wp2
    go_ret
    exact ⟨rfl, hmb ▸ HB.out⟩
  subst z1
  by_cases z2 : t2 = 0
  case neg =>
    have z2' : (t2 == 0) = false := beq_eq_false_iff_ne.2 z2
    go_wp2
    go_ret
    exact ⟨rfl, hmb ▸ HB.out⟩
  subst z2
  by_cases z3 : t3 = 0
  case neg =>
    have z3' : (t3 == 0) = false := beq_eq_false_iff_ne.2 z3
    go_wp2
    go_ret
    exact ⟨rfl, hmb ▸ HB.out⟩
  subst z3
  obtain ⟨c1, hc1⟩ : ∃ c, Int.tdiv (a1 + b1) 2 = c := ⟨_, rfl⟩
  obtain ⟨c2, hc2⟩ : ∃ c, Int.tdiv (a2 + b2) 2 = c := ⟨_, rfl⟩
  obtain ⟨c3, hc3⟩ : ∃ c, Int.tdiv (a3 + b3) 2 = c := ⟨_, rfl⟩
  have h1 : a1 + b1 = 2 * c1 := by have := G1.out; rw [← hc1, Int.tdiv_eq_ediv_of_nonneg (by omega)]; omega
  have h2 : a2 + b2 = 2 * c2 := by have := G2.out; rw [← hc2, Int.tdiv_eq_ediv_of_nonneg (by omega)]; omega
  have h3 : a3 + b3 = 2 * c3 := by have := G3.out; rw [← hc3, Int.tdiv_eq_ediv_of_nonneg (by omega)]; omega
  have y1 : 0 ≤ c1 ∧ c1 ≤ 1099511627776 := by omega
  have y2 : 0 ≤ c2 ∧ c2 ≤ 1099511627776 := by omega
  have y3 : 0 ≤ c3 ∧ c3 ≤ 1099511627776 := by omega
  obtain ⟨y1, y1'⟩ := y1; obtain ⟨y2, y2'⟩ := y2; obtain ⟨y3, y3'⟩ := y3
  have v1 : wrap64 c1 = c1 := by unfold wrap64; omega
  have v2 : wrap64 c2 = c2 := by unfold wrap64; omega
  have v3 : wrap64 c3 = c3 := by unfold wrap64; omega
  have hc1' : I64 c1 := ⟨by omega, by omega⟩
  have hc2' : I64 c2 := ⟨by omega, by omega⟩
  have hc3' : I64 c3 := ⟨by omega, by omega⟩
  have hhv := Mp.halves (M := mpOf W D H N mf) (a := ⟨a1, a2, a3⟩) (b := ⟨b1, b2, b3⟩) (c := ⟨c1, c2, c3⟩) h1 h2 h3
  obtain ⟨s, hs⟩ := boolOf ((mpOf W D H N mf).Sees ⟨a1, a2, a3⟩ ⟨b1, b2, b3⟩)
  obtain ⟨s1, hs1⟩ := boolOf ((mpOf W D H N mf).Sees ⟨a1, a2, a3⟩ ⟨c1, c2, c3⟩)
  obtain ⟨s2, hs2⟩ := boolOf ((mpOf W D H N mf).Sees ⟨c1, c2, c3⟩ ⟨b1, b2, b3⟩)
  have hsum := hid (hs.trans (hhv.trans (and_congr hs1 hs2).symm))
  have HS := hid hs; have HS1 := hid hs1; have HS2 := hid hs2
  clear h1 h2 h3 hhv hs hs1 hs2 G1 G2 G3
  have hMU := HM.out.keep ((Below.refl U.heap.size U).alloc (Nat.le_refl _) (.cells #[.int .i64 c1, .int .i64 c2, .int .i64 c3] 27))
  have O5' := O3.alloc (.cells #[.int .i64 c1, .int .i64 c2, .int .i64 c3] 27)
  have a5 := aq.alloc (.cells #[.int .i64 c1, .int .i64 c2, .int .i64 c3] 27)
  have b5 := bq.alloc (.cells #[.int .i64 c1, .int .i64 c2, .int .i64 c3] 27)
  have x5 := B3.new U 27 c1 c2 c3
  have HB5 := HB.out.alloc HB.out.size (.cells #[.int .i64 c1, .int .i64 c2, .int .i64 c3] 27)
  go_upto_region 6 with fail
  obtain ⟨cb, hcb⟩ : ∃ b, U.heap.size = b := ⟨_, rfl⟩
  rw [hcb] at x5
  try simp only [hcb]
  generalize U.alloc (.cells #[.int .i64 c1, .int .i64 c2, .int .i64 c3] 27) = U4 at *
  clear m0 m1 m2 m3 m4 ca0 ca1 ca2 cb0 cb1 cb2
  obtain ⟨m0, m1, m2, m3, m4⟩ := O5'.cells
  obtain ⟨ca0, ca1, ca2⟩ := a5.cells
  obtain ⟨cb0, cb1, cb2⟩ := b5.cells
  obtain ⟨cc0, cc1, cc2⟩ := x5.cells
  have HM := hid hMU
  have HB := hid HB5
  have r0 := stays m0
  have r1 := stays m1
  have r2 := stays m2
  have r3 := stays m3
  have r4 := stays m4
  have ra0 := stays ca0
  have ra1 := stays ca1
  have ra2 := stays ca2
  have rb0 := stays cb0
  have rb1 := stays cb1
  have rb2 := stays cb2
  have rc0 := stays cc0
  have rc1 := stays cc1
  have rc2 := stays cc2
  have k1 := hid (fun V (hV : Below U4.heap.size U4 V) => gridSight W D H mp N mc mf sp K sc a1 a2 a3 b1 b2 b3 ha1 ha2 ha3 hb1 hb2 hb3 V (HM.out.keep hV) s HS.out)
  have k2 := hid (fun V (hV : Below U4.heap.size U4 V) => gridSight W D H mp N mc mf sp K sc a1 a2 a3 c1 c2 c3 ha1 ha2 ha3 hc1' hc2' hc3' V (HM.out.keep hV) s1 HS1.out)
  have k3 := hid (fun V (hV : Below U4.heap.size U4 V) => gridSight W D H mp N mc mf sp K sc c1 c2 c3 b1 b2 b3 hc1' hc2' hc3' hb1 hb2 hb3 V (HM.out.keep hV) s2 HS2.out)
  clear m0 m1 m2 m3 m4 ca0 ca1 ca2 cb0 cb1 cb2 cc0 cc1 cc2 hMU HB5
  cases s1 with
  | true =>
    cases s2 with
    | true =>
      obtain rfl : s = true := hsum.out.2 ⟨rfl, rfl⟩
      refine region_held (fun w' => Below U4.heap.size U4 w') 19 rfl (by kernel_rfl) (below_drewN U4 1) ?_
      intro hHeld
      refine takeO 0 (some 89) (v := ?v1) rfl rfl (by kernel_rfl) (by kernel_rfl) (by kernel_rfl) (Or.inl ⟨by rfl, ?y1⟩) hHeld ?r1
      case y1 => (intro w' hSw; (try dsimp only at hSw); go_simp; try with_reducible rfl)
      try simp only [Act.put, List.setIfInBounds_toArray, List.set_cons_zero, List.set_cons_succ]
      refine takeO 1 (some 90) (v := ?v2) rfl rfl (by kernel_rfl) (by kernel_rfl) (by kernel_rfl) (Or.inl ⟨by rfl, ?y2⟩) hHeld ?r2
      case y2 => (intro w' hSw; (try dsimp only at hSw); go_simp; try with_reducible rfl)
      try simp only [Act.put, List.setIfInBounds_toArray, List.set_cons_zero, List.set_cons_succ]
      refine takeO 2 (some 91) (v := ?v3) rfl rfl (by kernel_rfl) (by kernel_rfl) (by kernel_rfl) (Or.inl ⟨by rfl, ?y3⟩) hHeld ?r3
      case y3 => (intro w' hSw; (try dsimp only at hSw); go_simp; try with_reducible rfl)
      try simp only [Act.put, List.setIfInBounds_toArray, List.set_cons_zero, List.set_cons_succ]
      refine takeO 3 (some 92) (v := ?v4) rfl rfl (by kernel_rfl) (by kernel_rfl) (by kernel_rfl) (Or.inl ⟨by rfl, ?y4⟩) hHeld ?r4
      case y4 => (intro w' hSw; (try dsimp only at hSw); go_simp; try with_reducible rfl)
      try simp only [Act.put, List.setIfInBounds_toArray, List.set_cons_zero, List.set_cons_succ]
      refine takeO 4 (some 93) (v := ?v5) rfl rfl (by kernel_rfl) (by kernel_rfl) (by kernel_rfl) (Or.inl ⟨by rfl, ?y5⟩) hHeld ?r5
      case y5 => (intro w' hSw; (try dsimp only at hSw); go_simp; try with_reducible rfl)
      try simp only [Act.put, List.setIfInBounds_toArray, List.set_cons_zero, List.set_cons_succ]
      refine takeO 6 (some 95) (v := ?v6) rfl rfl (by kernel_rfl) (by kernel_rfl) (by kernel_rfl) (Or.inl ⟨by rfl, ?y6⟩) hHeld ?r6
      case y6 => (intro w' hSw; (try dsimp only at hSw); go_simp; try with_reducible rfl)
      try simp only [Act.put, List.setIfInBounds_toArray, List.set_cons_zero, List.set_cons_succ]
      refine takeO 7 (some 96) (v := ?v7) rfl rfl (by kernel_rfl) (by kernel_rfl) (by kernel_rfl) (Or.inl ⟨by rfl, ?y7⟩) hHeld ?r7
      case y7 => (intro w' hSw; (try dsimp only at hSw); go_simp; try with_reducible rfl)
      try simp only [Act.put, List.setIfInBounds_toArray, List.set_cons_zero, List.set_cons_succ]
      refine takeO 8 (some 97) (v := ?v8) rfl rfl (by kernel_rfl) (by kernel_rfl) (by kernel_rfl) (Or.inl ⟨by rfl, ?y8⟩) hHeld ?r8
      case y8 => (intro w' hSw; (try dsimp only at hSw); go_simp; try with_reducible rfl)
      try simp only [Act.put, List.setIfInBounds_toArray, List.set_cons_zero, List.set_cons_succ]
      refine wpAnyH_ready (rs := [5]) (by kernel_rfl) (by simp) ?_
      refine AllReadyH.cons rfl (fun K hK => ?_) AllReadyH.nil
      go_simp
      refine (k1.out _ (below_drewN U4 1)).mono ?_
      rintro e V1 ⟨rfl, q1⟩
      dsimp only
      have HB1 : Below U4.heap.size U4 V1 := Below.trans (below_drewN U4 1) q1
      refine hK.out _ _ HB1 (fun hHeld => ?_)
      clear hK K q1
      refine wpAnyH_ready (rs := [9]) (by kernel_rfl) (by simp) ?_
      refine AllReadyH.cons rfl (fun K hK => ?_) AllReadyH.nil
      go_simp
      refine (k2.out _ HB1).mono ?_
      rintro e V2 ⟨rfl, q2⟩
      dsimp only
      have HB2 := btrans HB1 q2
      refine hK.out _ _ HB2 (fun hHeld => ?_)
      clear hK K q2 HB1
      refine takeO 10 (some 99) (v := ?v9) rfl rfl (by kernel_rfl) (by kernel_rfl) (by kernel_rfl) (Or.inl ⟨by rfl, ?y9⟩) hHeld ?r9
      case y9 => (intro w' hSw; (try dsimp only at hSw); go_simp; try with_reducible rfl)
      try simp only [Act.put, List.setIfInBounds_toArray, List.set_cons_zero, List.set_cons_succ]
      refine takeO 11 (some 100) (v := ?v10) rfl rfl (by kernel_rfl) (by kernel_rfl) (by kernel_rfl) (Or.inl ⟨by rfl, ?y10⟩) hHeld ?r10
      case y10 => (intro w' hSw; (try dsimp only at hSw); go_simp; try with_reducible rfl)
      try simp only [Act.put, List.setIfInBounds_toArray, List.set_cons_zero, List.set_cons_succ]
      refine takeO 12 (some 101) (v := ?v11) rfl rfl (by kernel_rfl) (by kernel_rfl) (by kernel_rfl) (Or.inl ⟨by rfl, ?y11⟩) hHeld ?r11
      case y11 => (intro w' hSw; (try dsimp only at hSw); go_simp; try with_reducible rfl)
      try simp only [Act.put, List.setIfInBounds_toArray, List.set_cons_zero, List.set_cons_succ]
      refine takeO 13 (some 102) (v := ?v12) rfl rfl (by kernel_rfl) (by kernel_rfl) (by kernel_rfl) (Or.inl ⟨by rfl, ?y12⟩) hHeld ?r12
      case y12 => (intro w' hSw; (try dsimp only at hSw); go_simp; try with_reducible rfl)
      try simp only [Act.put, List.setIfInBounds_toArray, List.set_cons_zero, List.set_cons_succ]
      refine wpAnyH_ready (rs := [14]) (by kernel_rfl) (by simp) ?_
      refine AllReadyH.cons rfl (fun K hK => ?_) AllReadyH.nil
      go_simp
      refine (k3.out _ HB2).mono ?_
      rintro e V3 ⟨rfl, q3⟩
      dsimp only
      have HB3 := btrans HB2 q3
      refine hK.out _ _ HB3 (fun hHeld => ?_)
      clear hK K q3 HB2
      refine takeO 15 (some 104) (v := ?v13) rfl rfl (by kernel_rfl) (by kernel_rfl) (by kernel_rfl) (Or.inl ⟨by rfl, ?y13⟩) hHeld ?r13
      case y13 => (intro w' hSw; (try dsimp only at hSw); go_simp; try with_reducible rfl)
      try simp only [Act.put, List.setIfInBounds_toArray, List.set_cons_zero, List.set_cons_succ]
      refine takeO 16 (some 105) (v := ?v14) rfl rfl (by kernel_rfl) (by kernel_rfl) (by kernel_rfl) (Or.inl ⟨by rfl, ?y14⟩) hHeld ?r14
      case y14 => (intro w' hSw; (try dsimp only at hSw); go_simp; try with_reducible rfl)
      try simp only [Act.put, List.setIfInBounds_toArray, List.set_cons_zero, List.set_cons_succ]
      refine takeO 17 (some 106) (v := ?v15) rfl rfl (by kernel_rfl) (by kernel_rfl) (by kernel_rfl) (Or.inl ⟨by rfl, ?y15⟩) hHeld ?r15
      case y15 => (intro w' hSw; (try dsimp only at hSw); go_simp; try with_reducible rfl)
      try simp only [Act.put, List.setIfInBounds_toArray, List.set_cons_zero, List.set_cons_succ]
      refine takeO 18 (some 6) (v := ?v16) rfl rfl (by kernel_rfl) (by kernel_rfl) (by kernel_rfl) (Or.inl ⟨by rfl, ?y16⟩) hHeld ?r16
      case y16 => (intro w' hSw; (try dsimp only at hSw); go_simp; try with_reducible rfl)
      try simp only [Act.put, List.setIfInBounds_toArray, List.set_cons_zero, List.set_cons_succ]
      refine wpAnyH_done (by kernel_rfl) (Only.on ?_) _
      clear hHeld
      go_wp2
      go_ret
      exact ⟨rfl, hmb ▸ btrans HB.out HB3⟩
    | false =>
      obtain rfl : s = false := by
        cases s with
        | false => rfl
        | true => exact absurd (hsum.out.1 rfl).2 (by decide)
      refine region_held (fun w' => Below U4.heap.size U4 w') 19 rfl (by kernel_rfl) (below_drewN U4 1) ?_
      intro hHeld
      refine takeO 0 (some 89) (v := ?v17) rfl rfl (by kernel_rfl) (by kernel_rfl) (by kernel_rfl) (Or.inl ⟨by rfl, ?y17⟩) hHeld ?r17
      case y17 => (intro w' hSw; (try dsimp only at hSw); go_simp; try with_reducible rfl)
      try simp only [Act.put, List.setIfInBounds_toArray, List.set_cons_zero, List.set_cons_succ]
      refine takeO 1 (some 90) (v := ?v18) rfl rfl (by kernel_rfl) (by kernel_rfl) (by kernel_rfl) (Or.inl ⟨by rfl, ?y18⟩) hHeld ?r18
      case y18 => (intro w' hSw; (try dsimp only at hSw); go_simp; try with_reducible rfl)
      try simp only [Act.put, List.setIfInBounds_toArray, List.set_cons_zero, List.set_cons_succ]
      refine takeO 2 (some 91) (v := ?v19) rfl rfl (by kernel_rfl) (by kernel_rfl) (by kernel_rfl) (Or.inl ⟨by rfl, ?y19⟩) hHeld ?r19
      case y19 => (intro w' hSw; (try dsimp only at hSw); go_simp; try with_reducible rfl)
      try simp only [Act.put, List.setIfInBounds_toArray, List.set_cons_zero, List.set_cons_succ]
      refine takeO 3 (some 92) (v := ?v20) rfl rfl (by kernel_rfl) (by kernel_rfl) (by kernel_rfl) (Or.inl ⟨by rfl, ?y20⟩) hHeld ?r20
      case y20 => (intro w' hSw; (try dsimp only at hSw); go_simp; try with_reducible rfl)
      try simp only [Act.put, List.setIfInBounds_toArray, List.set_cons_zero, List.set_cons_succ]
      refine takeO 4 (some 93) (v := ?v21) rfl rfl (by kernel_rfl) (by kernel_rfl) (by kernel_rfl) (Or.inl ⟨by rfl, ?y21⟩) hHeld ?r21
      case y21 => (intro w' hSw; (try dsimp only at hSw); go_simp; try with_reducible rfl)
      try simp only [Act.put, List.setIfInBounds_toArray, List.set_cons_zero, List.set_cons_succ]
      refine takeO 6 (some 95) (v := ?v22) rfl rfl (by kernel_rfl) (by kernel_rfl) (by kernel_rfl) (Or.inl ⟨by rfl, ?y22⟩) hHeld ?r22
      case y22 => (intro w' hSw; (try dsimp only at hSw); go_simp; try with_reducible rfl)
      try simp only [Act.put, List.setIfInBounds_toArray, List.set_cons_zero, List.set_cons_succ]
      refine takeO 7 (some 96) (v := ?v23) rfl rfl (by kernel_rfl) (by kernel_rfl) (by kernel_rfl) (Or.inl ⟨by rfl, ?y23⟩) hHeld ?r23
      case y23 => (intro w' hSw; (try dsimp only at hSw); go_simp; try with_reducible rfl)
      try simp only [Act.put, List.setIfInBounds_toArray, List.set_cons_zero, List.set_cons_succ]
      refine takeO 8 (some 97) (v := ?v24) rfl rfl (by kernel_rfl) (by kernel_rfl) (by kernel_rfl) (Or.inl ⟨by rfl, ?y24⟩) hHeld ?r24
      case y24 => (intro w' hSw; (try dsimp only at hSw); go_simp; try with_reducible rfl)
      try simp only [Act.put, List.setIfInBounds_toArray, List.set_cons_zero, List.set_cons_succ]
      refine wpAnyH_ready (rs := [5]) (by kernel_rfl) (by simp) ?_
      refine AllReadyH.cons rfl (fun K hK => ?_) AllReadyH.nil
      go_simp
      refine (k1.out _ (below_drewN U4 1)).mono ?_
      rintro e V1 ⟨rfl, q1⟩
      dsimp only
      have HB1 : Below U4.heap.size U4 V1 := Below.trans (below_drewN U4 1) q1
      refine hK.out _ _ HB1 (fun hHeld => ?_)
      clear hK K q1
      refine wpAnyH_ready (rs := [9]) (by kernel_rfl) (by simp) ?_
      refine AllReadyH.cons rfl (fun K hK => ?_) AllReadyH.nil
      go_simp
      refine (k2.out _ HB1).mono ?_
      rintro e V2 ⟨rfl, q2⟩
      dsimp only
      have HB2 := btrans HB1 q2
      refine hK.out _ _ HB2 (fun hHeld => ?_)
      clear hK K q2 HB1
      refine takeO 10 (some 99) (v := ?v25) rfl rfl (by kernel_rfl) (by kernel_rfl) (by kernel_rfl) (Or.inl ⟨by rfl, ?y25⟩) hHeld ?r25
      case y25 => (intro w' hSw; (try dsimp only at hSw); go_simp; try with_reducible rfl)
      try simp only [Act.put, List.setIfInBounds_toArray, List.set_cons_zero, List.set_cons_succ]
      refine takeO 11 (some 100) (v := ?v26) rfl rfl (by kernel_rfl) (by kernel_rfl) (by kernel_rfl) (Or.inl ⟨by rfl, ?y26⟩) hHeld ?r26
      case y26 => (intro w' hSw; (try dsimp only at hSw); go_simp; try with_reducible rfl)
      try simp only [Act.put, List.setIfInBounds_toArray, List.set_cons_zero, List.set_cons_succ]
      refine takeO 12 (some 101) (v := ?v27) rfl rfl (by kernel_rfl) (by kernel_rfl) (by kernel_rfl) (Or.inl ⟨by rfl, ?y27⟩) hHeld ?r27
      case y27 => (intro w' hSw; (try dsimp only at hSw); go_simp; try with_reducible rfl)
      try simp only [Act.put, List.setIfInBounds_toArray, List.set_cons_zero, List.set_cons_succ]
      refine takeO 13 (some 102) (v := ?v28) rfl rfl (by kernel_rfl) (by kernel_rfl) (by kernel_rfl) (Or.inl ⟨by rfl, ?y28⟩) hHeld ?r28
      case y28 => (intro w' hSw; (try dsimp only at hSw); go_simp; try with_reducible rfl)
      try simp only [Act.put, List.setIfInBounds_toArray, List.set_cons_zero, List.set_cons_succ]
      refine wpAnyH_ready (rs := [14]) (by kernel_rfl) (by simp) ?_
      refine AllReadyH.cons rfl (fun K hK => ?_) AllReadyH.nil
      go_simp
      refine (k3.out _ HB2).mono ?_
      rintro e V3 ⟨rfl, q3⟩
      dsimp only
      have HB3 := btrans HB2 q3
      refine hK.out _ _ HB3 (fun hHeld => ?_)
      clear hK K q3 HB2
      refine takeO 15 (some 104) (v := ?v29) rfl rfl (by kernel_rfl) (by kernel_rfl) (by kernel_rfl) (Or.inl ⟨by rfl, ?y29⟩) hHeld ?r29
      case y29 => (intro w' hSw; (try dsimp only at hSw); go_simp; try with_reducible rfl)
      try simp only [Act.put, List.setIfInBounds_toArray, List.set_cons_zero, List.set_cons_succ]
      refine takeO 16 (some 105) (v := ?v30) rfl rfl (by kernel_rfl) (by kernel_rfl) (by kernel_rfl) (Or.inl ⟨by rfl, ?y30⟩) hHeld ?r30
      case y30 => (intro w' hSw; (try dsimp only at hSw); go_simp; try with_reducible rfl)
      try simp only [Act.put, List.setIfInBounds_toArray, List.set_cons_zero, List.set_cons_succ]
      refine takeO 17 (some 106) (v := ?v31) rfl rfl (by kernel_rfl) (by kernel_rfl) (by kernel_rfl) (Or.inl ⟨by rfl, ?y31⟩) hHeld ?r31
      case y31 => (intro w' hSw; (try dsimp only at hSw); go_simp; try with_reducible rfl)
      try simp only [Act.put, List.setIfInBounds_toArray, List.set_cons_zero, List.set_cons_succ]
      refine takeO 18 (some 6) (v := ?v32) rfl rfl (by kernel_rfl) (by kernel_rfl) (by kernel_rfl) (Or.inl ⟨by rfl, ?y32⟩) hHeld ?r32
      case y32 => (intro w' hSw; (try dsimp only at hSw); go_simp; try with_reducible rfl)
      try simp only [Act.put, List.setIfInBounds_toArray, List.set_cons_zero, List.set_cons_succ]
      refine wpAnyH_done (by kernel_rfl) (Only.on ?_) _
      clear hHeld
      go_wp2
      go_ret
      exact ⟨rfl, hmb ▸ btrans HB.out HB3⟩
  | false =>
    obtain rfl : s = false := by
      cases s with
      | false => rfl
      | true => exact absurd (hsum.out.1 rfl).1 (by decide)
    refine region_held (fun w' => Below U4.heap.size U4 w') 19 rfl (by kernel_rfl) (below_drewN U4 1) ?_
    intro hHeld
    refine takeO 0 (some 89) (v := ?v33) rfl rfl (by kernel_rfl) (by kernel_rfl) (by kernel_rfl) (Or.inl ⟨by rfl, ?y33⟩) hHeld ?r33
    case y33 => (intro w' hSw; (try dsimp only at hSw); go_simp; try with_reducible rfl)
    try simp only [Act.put, List.setIfInBounds_toArray, List.set_cons_zero, List.set_cons_succ]
    refine takeO 1 (some 90) (v := ?v34) rfl rfl (by kernel_rfl) (by kernel_rfl) (by kernel_rfl) (Or.inl ⟨by rfl, ?y34⟩) hHeld ?r34
    case y34 => (intro w' hSw; (try dsimp only at hSw); go_simp; try with_reducible rfl)
    try simp only [Act.put, List.setIfInBounds_toArray, List.set_cons_zero, List.set_cons_succ]
    refine takeO 2 (some 91) (v := ?v35) rfl rfl (by kernel_rfl) (by kernel_rfl) (by kernel_rfl) (Or.inl ⟨by rfl, ?y35⟩) hHeld ?r35
    case y35 => (intro w' hSw; (try dsimp only at hSw); go_simp; try with_reducible rfl)
    try simp only [Act.put, List.setIfInBounds_toArray, List.set_cons_zero, List.set_cons_succ]
    refine takeO 3 (some 92) (v := ?v36) rfl rfl (by kernel_rfl) (by kernel_rfl) (by kernel_rfl) (Or.inl ⟨by rfl, ?y36⟩) hHeld ?r36
    case y36 => (intro w' hSw; (try dsimp only at hSw); go_simp; try with_reducible rfl)
    try simp only [Act.put, List.setIfInBounds_toArray, List.set_cons_zero, List.set_cons_succ]
    refine takeO 4 (some 93) (v := ?v37) rfl rfl (by kernel_rfl) (by kernel_rfl) (by kernel_rfl) (Or.inl ⟨by rfl, ?y37⟩) hHeld ?r37
    case y37 => (intro w' hSw; (try dsimp only at hSw); go_simp; try with_reducible rfl)
    try simp only [Act.put, List.setIfInBounds_toArray, List.set_cons_zero, List.set_cons_succ]
    refine takeO 6 (some 95) (v := ?v38) rfl rfl (by kernel_rfl) (by kernel_rfl) (by kernel_rfl) (Or.inl ⟨by rfl, ?y38⟩) hHeld ?r38
    case y38 => (intro w' hSw; (try dsimp only at hSw); go_simp; try with_reducible rfl)
    try simp only [Act.put, List.setIfInBounds_toArray, List.set_cons_zero, List.set_cons_succ]
    refine takeO 7 (some 96) (v := ?v39) rfl rfl (by kernel_rfl) (by kernel_rfl) (by kernel_rfl) (Or.inl ⟨by rfl, ?y39⟩) hHeld ?r39
    case y39 => (intro w' hSw; (try dsimp only at hSw); go_simp; try with_reducible rfl)
    try simp only [Act.put, List.setIfInBounds_toArray, List.set_cons_zero, List.set_cons_succ]
    refine takeO 8 (some 97) (v := ?v40) rfl rfl (by kernel_rfl) (by kernel_rfl) (by kernel_rfl) (Or.inl ⟨by rfl, ?y40⟩) hHeld ?r40
    case y40 => (intro w' hSw; (try dsimp only at hSw); go_simp; try with_reducible rfl)
    try simp only [Act.put, List.setIfInBounds_toArray, List.set_cons_zero, List.set_cons_succ]
    refine wpAnyH_ready (rs := [5]) (by kernel_rfl) (by simp) ?_
    refine AllReadyH.cons rfl (fun K hK => ?_) AllReadyH.nil
    go_simp
    refine (k1.out _ (below_drewN U4 1)).mono ?_
    rintro e V1 ⟨rfl, q1⟩
    dsimp only
    have HB1 : Below U4.heap.size U4 V1 := Below.trans (below_drewN U4 1) q1
    refine hK.out _ _ HB1 (fun hHeld => ?_)
    clear hK K q1
    refine wpAnyH_ready (rs := [9]) (by kernel_rfl) (by simp) ?_
    refine AllReadyH.cons rfl (fun K hK => ?_) AllReadyH.nil
    go_simp
    refine (k2.out _ HB1).mono ?_
    rintro e V2 ⟨rfl, q2⟩
    dsimp only
    have HB2 := btrans HB1 q2
    refine hK.out _ _ HB2 (fun hHeld => ?_)
    clear hK K q2 HB1
    refine takeO 10 (some 99) (v := ?v41) rfl rfl (by kernel_rfl) (by kernel_rfl) (by kernel_rfl) (Or.inl ⟨by rfl, ?y41⟩) hHeld ?r41
    case y41 => (intro w' hSw; (try dsimp only at hSw); go_simp; try with_reducible rfl)
    try simp only [Act.put, List.setIfInBounds_toArray, List.set_cons_zero, List.set_cons_succ]
    refine takeO 11 (some 100) rfl rfl (by kernel_rfl) (by kernel_rfl) (by kernel_rfl) (Or.inr ⟨by rfl, rfl⟩) hHeld ?_
    try simp only [Act.put, List.setIfInBounds_toArray, List.set_cons_zero, List.set_cons_succ]
    refine takeO 12 (some 101) rfl rfl (by kernel_rfl) (by kernel_rfl) (by kernel_rfl) (Or.inr ⟨by rfl, rfl⟩) hHeld ?_
    try simp only [Act.put, List.setIfInBounds_toArray, List.set_cons_zero, List.set_cons_succ]
    refine takeO 13 (some 102) rfl rfl (by kernel_rfl) (by kernel_rfl) (by kernel_rfl) (Or.inr ⟨by rfl, rfl⟩) hHeld ?_
    try simp only [Act.put, List.setIfInBounds_toArray, List.set_cons_zero, List.set_cons_succ]
    refine takeO 14 (some 103) rfl rfl (by kernel_rfl) (by kernel_rfl) (by kernel_rfl) (Or.inr ⟨by rfl, rfl⟩) hHeld ?_
    try simp only [Act.put, List.setIfInBounds_toArray, List.set_cons_zero, List.set_cons_succ]
    refine takeO 15 (some 104) (v := ?v42) rfl rfl (by kernel_rfl) (by kernel_rfl) (by kernel_rfl) (Or.inl ⟨by rfl, ?y42⟩) hHeld ?r42
    case y42 => (intro w' hSw; (try dsimp only at hSw); go_simp; try with_reducible rfl)
    try simp only [Act.put, List.setIfInBounds_toArray, List.set_cons_zero, List.set_cons_succ]
    refine takeO 16 (some 105) (v := ?v43) rfl rfl (by kernel_rfl) (by kernel_rfl) (by kernel_rfl) (Or.inl ⟨by rfl, ?y43⟩) hHeld ?r43
    case y43 => (intro w' hSw; (try dsimp only at hSw); go_simp; try with_reducible rfl)
    try simp only [Act.put, List.setIfInBounds_toArray, List.set_cons_zero, List.set_cons_succ]
    refine takeO 17 (some 106) (v := ?v44) rfl rfl (by kernel_rfl) (by kernel_rfl) (by kernel_rfl) (Or.inl ⟨by rfl, ?y44⟩) hHeld ?r44
    case y44 => (intro w' hSw; (try dsimp only at hSw); go_simp; try with_reducible rfl)
    try simp only [Act.put, List.setIfInBounds_toArray, List.set_cons_zero, List.set_cons_succ]
    refine takeO 18 (some 6) (v := ?v45) rfl rfl (by kernel_rfl) (by kernel_rfl) (by kernel_rfl) (Or.inl ⟨by rfl, ?y45⟩) hHeld ?r45
    case y45 => (intro w' hSw; (try dsimp only at hSw); go_simp; try with_reducible rfl)
    try simp only [Act.put, List.setIfInBounds_toArray, List.set_cons_zero, List.set_cons_succ]
    refine wpAnyH_done (by kernel_rfl) (Only.on ?_) _
    clear hHeld
    go_wp2
    go_ret
    exact ⟨rfl, hmb ▸ btrans HB.out HB2⟩
end Go.Proofs.Ytfcaekboonnmaaa
