/- Layer 9 (grid): the walk of the law GridBoxes. -/
import Derived.Test.YtfcaekboonnmaaaGwC
namespace Go.Proofs.Ytfcaekboonnmaaa
open Go.RowKit
set_option linter.unusedVariables false
set_option linter.unusedSimpArgs false
attribute [local go_sem ↓] Go.wp_at_zero Go.wp_at_succ

set_option maxRecDepth 100000 in
set_option maxHeartbeats 4000000 in
theorem gridBoxes_walk (W D H : Int) (mp : Option Addr) (mn mc : Nat) (mf : Nat → Bool) (sp : Option Addr) (sn sc : Nat) (X Y Z : Nat → Int) (a1 a2 a3 : Int) (b1 b2 b3 : Int) (d : Int) (w : World) (hW : I64 W) (hD : I64 D) (hH : I64 H) (hm : Arg w mp mn mc fun i => .bool (mf i)) (hv : ArgW w sp sn sc X Y Z) (hX : ∀ i, I64 (X i) ∧ I64 (Y i) ∧ I64 (Z i)) (ha1 : I64 a1) (ha2 : I64 a2) (ha3 : I64 a3) (hb1 : I64 b1) (hb2 : I64 b2) (hb3 : I64 b3) (hd : I64 d) :
    Calls Try.prog 10 #[.agg #[.int .i64 W, .int .i64 D, .int .i64 H, .slice mp mn mc, .slice sp sn sc], .agg #[.int .i64 a1, .int .i64 a2, .int .i64 a3], .agg #[.int .i64 b1, .int .i64 b2, .int .i64 b3], .int .i64 d] w fun e w' => e = .returned (.bool true) ∧ Below w.heap.size w w' := by
  have la1 := ha1.lo; have ua1 := ha1.hi; have lb1 := hb1.lo; have ub1 := hb1.hi
  have la2 := ha2.lo; have ua2 := ha2.hi; have lb2 := hb2.lo; have ub2 := hb2.hi
  have la3 := ha3.lo; have ua3 := ha3.hi; have lb3 := hb3.lo; have ub3 := hb3.hi
  obtain ⟨l1, el1⟩ : ∃ p, min a1 b1 = p := ⟨_, rfl⟩
  have kl1 := fun ts t V => min2 (a := a1) (b := b1) ts t V
  rw [el1] at kl1
  obtain ⟨l2, el2⟩ : ∃ p, min a2 b2 = p := ⟨_, rfl⟩
  have kl2 := fun ts t V => min2 (a := a2) (b := b2) ts t V
  rw [el2] at kl2
  obtain ⟨l3, el3⟩ : ∃ p, min a3 b3 = p := ⟨_, rfl⟩
  have kl3 := fun ts t V => min2 (a := a3) (b := b3) ts t V
  rw [el3] at kl3
  obtain ⟨u1, eu1⟩ : ∃ p, max a1 b1 = p := ⟨_, rfl⟩
  have ku1 := fun ts t V => max2 (a := a1) (b := b1) ts t V
  rw [eu1] at ku1
  obtain ⟨u2, eu2⟩ : ∃ p, max a2 b2 = p := ⟨_, rfl⟩
  have ku2 := fun ts t V => max2 (a := a2) (b := b2) ts t V
  rw [eu2] at ku2
  obtain ⟨u3, eu3⟩ : ∃ p, max a3 b3 = p := ⟨_, rfl⟩
  have ku3 := fun ts t V => max2 (a := a3) (b := b3) ts t V
  rw [eu3] at ku3
  obtain ⟨z, ez⟩ : ∃ p, min u1 d = p := ⟨_, rfl⟩
  have kz := fun ts t V => min2 (a := u1) (b := d) ts t V
  rw [ez] at kz
  obtain ⟨c, ec⟩ : ∃ p, max l1 z = p := ⟨_, rfl⟩
  have kc := fun ts t V => max2 (a := l1) (b := z) ts t V
  rw [ec] at kc
  have hl1 : I64 l1 := ⟨by omega, by omega⟩
  have hl2 : I64 l2 := ⟨by omega, by omega⟩
  have hl3 : I64 l3 := ⟨by omega, by omega⟩
  have hu1 : I64 u1 := ⟨by omega, by omega⟩
  have hu2 : I64 u2 := ⟨by omega, by omega⟩
  have hu3 : I64 u3 := ⟨by omega, by omega⟩
  have hd1 := hd.lo; have hd2 := hd.hi
  have hlu : l1 ≤ u1 ∧ l2 ≤ u2 ∧ l3 ≤ u3 := by omega
  have hlc : l1 ≤ c ∧ c ≤ u1 := by omega
  have hc1 : I64 c := ⟨by omega, by omega⟩
  clear el1 el2 el3 eu1 eu2 eu3 ez ec
  have hle := hm.le; have hmost := hm.most; have hsle := hv.le; have hsmost := hv.most
  obtain ⟨N, hN⟩ : ∃ N, min mn 32768 = N := ⟨_, rfl⟩
  obtain ⟨K, hK⟩ : ∃ N, min sn 70 = N := ⟨_, rfl⟩
  have hsm := fun V => lawSmall W D H mp mn mc mf sp sn sc hle hmost hsle hsmost V
  rw [hN, hK] at hsm
  have HM0 := hid (hm.cut (show N ≤ mn by omega))
  have HV0 := hid (hv.cut (show K ≤ sn by omega))
  have hsh := lawShown
  have hN1 : N ≤ 32768 := by omega
  have hK1 : K ≤ 70 := by omega
  unfold maxLen at hmost hsmost
  clear hm hv hN hK
  have B0 : Below w.heap.size w (((w.alloc (.cells #[.int .i64 W, .int .i64 D, .int .i64 H, .slice mp mn mc, .slice sp sn sc] 25)).alloc (.cells #[.int .i64 a1, .int .i64 a2, .int .i64 a3] 27)).alloc (.cells #[.int .i64 b1, .int .i64 b2, .int .i64 b3] 27)) := (((Below.refl _ _).alloc (Nat.le_refl _) _).alloc (by simp) _).alloc (by simp; omega) _
  have O0 : O5 (((w.alloc (.cells #[.int .i64 W, .int .i64 D, .int .i64 H, .slice mp mn mc, .slice sp sn sc] 25)).alloc (.cells #[.int .i64 a1, .int .i64 a2, .int .i64 a3] 27)).alloc (.cells #[.int .i64 b1, .int .i64 b2, .int .i64 b3] 27)) (w.heap.size) (.int .i64 W) (.int .i64 D) (.int .i64 H) (.slice mp mn mc) (.slice sp sn sc) := ((O5.new _ _ _ _ _ _).alloc _).alloc _
  have a0 : B3 (((w.alloc (.cells #[.int .i64 W, .int .i64 D, .int .i64 H, .slice mp mn mc, .slice sp sn sc] 25)).alloc (.cells #[.int .i64 a1, .int .i64 a2, .int .i64 a3] 27)).alloc (.cells #[.int .i64 b1, .int .i64 b2, .int .i64 b3] 27)) (w.heap.size + 1) 27 a1 a2 a3 := (B3.new' _ _ _ _ _ (by simp)).alloc _
  have b0 : B3 (((w.alloc (.cells #[.int .i64 W, .int .i64 D, .int .i64 H, .slice mp mn mc, .slice sp sn sc] 25)).alloc (.cells #[.int .i64 a1, .int .i64 a2, .int .i64 a3] 27)).alloc (.cells #[.int .i64 b1, .int .i64 b2, .int .i64 b3] 27)) (w.heap.size + 1 + 1) 27 b1 b2 b3 := B3.new' _ _ _ _ _ (by simp)
  go_enter Try.func10, Try.ntmps10
  go_wp2_with fail
  refine (hsh _).mono ?_; rintro e V1 ⟨rfl, q1⟩
  have B1 := B0.trans (q1.mono B0.size)
  have O1 := O0.keep q1
  have a00 := a0.keep q1
  have b00 := b0.keep q1
  clear q1 B0 O0 a0 b0
  obtain ⟨mb, hmb⟩ : ∃ b, w.heap.size = b := ⟨_, rfl⟩
  have hwm : w.heap.size ≤ mb := by omega
  rw [hmb] at a00
  have hna : mb + 1 ≠ mb := by omega
  rw [hmb] at b00
  have hnb : mb + 1 + 1 ≠ mb := by omega
  rw [hmb] at O1
  obtain ⟨m0, m1, m2, m3, m4⟩ := O1.cells
  try rw [hmb]
  try simp only [hmb]
  go_wp2_with fail
  refine (hsm _).mono ?_; rintro e V2 ⟨rfl, q2⟩
  have B2 := B1.trans (q2.mono B1.size)
  have O2 := O1.keep q2
  have a000 := a00.keep q2
  have b000 := b00.keep q2
  clear q2 B1 O1 m0 m1 m2 m3 m4 hsm hsh a00 b00
  obtain ⟨m0, m1, m2, m3, m4⟩ := O2.cells
  obtain ⟨f0, f1, f2, f3, f4⟩ := O2.thaw
  have O3 := O2.set (.int .i64 W) (.int .i64 D) (.int .i64 H) (.slice mp N mc) (.slice sp K sc)
  have aq := a000.set5 hna (.int .i64 W) (.int .i64 D) (.int .i64 H) (.slice mp N mc) (.slice sp K sc)
  have bq := b000.set5 hnb (.int .i64 W) (.int .i64 D) (.int .i64 H) (.slice mp N mc) (.slice sp K sc)
  have HBs := below_set5 B2 hwm (.int .i64 W) (.int .i64 D) (.int .i64 H) (.slice mp N mc) (.slice sp K sc)
  clear O2 B2 a000 b000
  go_upto_region 3 with fail
  clear m0 m1 m2 m3 m4 f0 f1 f2 f3 f4
  generalize ((((V2.setCell ⟨mb, 0, none⟩ (.int .i64 W)).setCell ⟨mb, 1, none⟩ (.int .i64 D)).setCell ⟨mb, 2, none⟩ (.int .i64 H)).setCell ⟨mb, 3, none⟩ (.slice mp N mc)).setCell ⟨mb, 4, none⟩ (.slice sp K sc) = U at *
  obtain ⟨m0, m1, m2, m3, m4⟩ := O3.cells
  obtain ⟨ca0, ca1, ca2⟩ := aq.cells
  obtain ⟨cb0, cb1, cb2⟩ := bq.cells
  have HB := hid HBs
  have HM := hid (HM0.out.keep HBs)
  have HV := hid (HV0.out.keep HBs)
  clear HBs HM0 HV0
  have O4 := (O3.alloc (.cells #[.int .i64 l1, .int .i64 l2, .int .i64 l3] 27)).alloc (.cells #[.int .i64 u1, .int .i64 u2, .int .i64 u3] 27)
  have l4 := (B3.new U 27 l1 l2 l3).alloc (.cells #[.int .i64 u1, .int .i64 u2, .int .i64 u3] 27)
  have u4 := B3.new' (U.alloc (.cells #[.int .i64 l1, .int .i64 l2, .int .i64 l3] 27)) 27 u1 u2 u3 (b := U.heap.size + 1) (by simp)
  have HB4 := (HB.out.alloc HB.out.size (.cells #[.int .i64 l1, .int .i64 l2, .int .i64 l3] 27)).alloc (by simp; exact Nat.le_succ_of_le HB.out.size) (.cells #[.int .i64 u1, .int .i64 u2, .int .i64 u3] 27)
  have HM4 := (HM.out.keep ((Below.refl U.heap.size U).alloc (Nat.le_refl _) (.cells #[.int .i64 l1, .int .i64 l2, .int .i64 l3] 27))).keep ((Below.refl _ _).alloc (Nat.le_refl _) (.cells #[.int .i64 u1, .int .i64 u2, .int .i64 u3] 27))
  have ea0 := Lib.cell?_alloc_some (.cells #[.int .i64 l1, .int .i64 l2, .int .i64 l3] 27) ca0
  have ea1 := Lib.cell?_alloc_some (.cells #[.int .i64 l1, .int .i64 l2, .int .i64 l3] 27) ca1
  have ea2 := Lib.cell?_alloc_some (.cells #[.int .i64 l1, .int .i64 l2, .int .i64 l3] 27) ca2
  have eb0 := Lib.cell?_alloc_some (.cells #[.int .i64 l1, .int .i64 l2, .int .i64 l3] 27) cb0
  have eb1 := Lib.cell?_alloc_some (.cells #[.int .i64 l1, .int .i64 l2, .int .i64 l3] 27) cb1
  have eb2 := Lib.cell?_alloc_some (.cells #[.int .i64 l1, .int .i64 l2, .int .i64 l3] 27) cb2
  go_upto_region 5 with fail
  obtain ⟨xb, hxb⟩ : ∃ b, U.heap.size = b := ⟨_, rfl⟩
  rw [hxb] at l4 u4
  try simp only [hxb]
  generalize (U.alloc (.cells #[.int .i64 l1, .int .i64 l2, .int .i64 l3] 27)).alloc (.cells #[.int .i64 u1, .int .i64 u2, .int .i64 u3] 27) = U2 at *
  clear m0 m1 m2 m3 m4 ca0 ca1 ca2 cb0 cb1 cb2 ea0 ea1 ea2 eb0 eb1 eb2 hxb O3 aq bq HM HV HB
  obtain ⟨m0, m1, m2, m3, m4⟩ := O4.cells
  obtain ⟨cl0, cl1, cl2⟩ := l4.cells
  obtain ⟨cu0, cu1, cu2⟩ := u4.cells
  have HM := hid HM4
  have HB := hid HB4
  clear HM4 HB4
  obtain ⟨s, hs⟩ := boolOf ((mpOf W D H N mf).Clear ⟨l1, l2, l3⟩ ⟨u1, u2, u3⟩)
  have HS := hid hs
  clear hs
  go_wp2_with fail
  refine (gridClear W D H mp N mc mf sp K sc l1 l2 l3 u1 u2 u3 hl1 hl2 hl3 hu1 hu2 hu3 _ HM.out s HS.out).mono ?_; rintro e U3 ⟨rfl, q⟩
  clear m0 m1 m2 m3 m4 cl0 cl1 cl2 cu0 cu1 cu2
  have O5' := O4.keep q
  have l5 := l4.keep q
  have u5 := u4.keep q
  have HM := hid (HM.out.keep q)
  have HB := hid (btrans HB.out q)
  clear q O4 l4 u4
  obtain ⟨m0, m1, m2, m3, m4⟩ := O5'.cells
  obtain ⟨cl0, cl1, cl2⟩ := l5.cells
  obtain ⟨cu0, cu1, cu2⟩ := u5.cells
  by_cases n1 : l1 < u1
  case neg =>
    go_wp2
    go_ret
    exact ⟨rfl, hmb ▸ HB.out⟩
  by_cases n2 : l2 < u2
  case neg =>
    go_wp2
    go_ret
    exact ⟨rfl, hmb ▸ HB.out⟩
  by_cases n3 : l3 < u3
  case neg =>
    go_wp2
    go_ret
    exact ⟨rfl, hmb ▸ HB.out⟩
  have el0 := Lib.cell?_alloc_some (.cells #[.int .i64 c, .int .i64 u2, .int .i64 u3] 27) cl0
  have el1 := Lib.cell?_alloc_some (.cells #[.int .i64 c, .int .i64 u2, .int .i64 u3] 27) cl1
  have el2 := Lib.cell?_alloc_some (.cells #[.int .i64 c, .int .i64 u2, .int .i64 u3] 27) cl2
  have O6 := (O5'.alloc (.cells #[.int .i64 c, .int .i64 u2, .int .i64 u3] 27)).alloc (.cells #[.int .i64 c, .int .i64 l2, .int .i64 l3] 27)
  have l6 := (l5.alloc (.cells #[.int .i64 c, .int .i64 u2, .int .i64 u3] 27)).alloc (.cells #[.int .i64 c, .int .i64 l2, .int .i64 l3] 27)
  have u6 := (u5.alloc (.cells #[.int .i64 c, .int .i64 u2, .int .i64 u3] 27)).alloc (.cells #[.int .i64 c, .int .i64 l2, .int .i64 l3] 27)
  have x6 := (B3.new U3 27 c u2 u3).alloc (.cells #[.int .i64 c, .int .i64 l2, .int .i64 l3] 27)
  have y6 := B3.new' (U3.alloc (.cells #[.int .i64 c, .int .i64 u2, .int .i64 u3] 27)) 27 c l2 l3 (b := U3.heap.size + 1) (by simp)
  have HB6 := (HB.out.alloc HB.out.size (.cells #[.int .i64 c, .int .i64 u2, .int .i64 u3] 27)).alloc (by simp; exact Nat.le_succ_of_le HB.out.size) (.cells #[.int .i64 c, .int .i64 l2, .int .i64 l3] 27)
  have HM6 := (HM.out.keep ((Below.refl U3.heap.size U3).alloc (Nat.le_refl _) (.cells #[.int .i64 c, .int .i64 u2, .int .i64 u3] 27))).keep ((Below.refl _ _).alloc (Nat.le_refl _) (.cells #[.int .i64 c, .int .i64 l2, .int .i64 l3] 27))
  go_upto_region 12 with fail
  obtain ⟨tb, htb⟩ : ∃ b, U3.heap.size = b := ⟨_, rfl⟩
  rw [htb] at x6 y6
  try simp only [htb]
  generalize (U3.alloc (.cells #[.int .i64 c, .int .i64 u2, .int .i64 u3] 27)).alloc (.cells #[.int .i64 c, .int .i64 l2, .int .i64 l3] 27) = U4 at *
  clear m0 m1 m2 m3 m4 cl0 cl1 cl2 cu0 cu1 cu2 el0 el1 el2 htb O5' l5 u5 HM HB
  obtain ⟨m0, m1, m2, m3, m4⟩ := O6.cells
  obtain ⟨cl0, cl1, cl2⟩ := l6.cells
  obtain ⟨cu0, cu1, cu2⟩ := u6.cells
  obtain ⟨cx0, cx1, cx2⟩ := x6.cells
  obtain ⟨cy0, cy1, cy2⟩ := y6.cells
  have HM := hid HM6
  have HB := hid HB6
  clear HM6 HB6
  have hcut := Mp.Clear.cut (M := mpOf W D H N mf) (lo := ⟨l1, l2, l3⟩) (hi := ⟨u1, u2, u3⟩) (c := c) n1 n2 n3 hlc.1 hlc.2
  have hsee := fun e => Mp.Clear.sees (M := mpOf W D H N mf) (lo := ⟨l1, l2, l3⟩) (hi := ⟨u1, u2, u3⟩) n1 n2 n3 e
  obtain ⟨s1, hs1⟩ := boolOf ((mpOf W D H N mf).Clear ⟨l1, l2, l3⟩ ⟨c, u2, u3⟩)
  obtain ⟨s2, hs2⟩ := boolOf ((mpOf W D H N mf).Clear ⟨c, l2, l3⟩ ⟨u1, u2, u3⟩)
  have hsum := hid (HS.out.trans (hcut.trans (and_congr hs1 hs2).symm))
  have HS1 := hid hs1; have HS2 := hid hs2
  have HSEE := hid (fun e : s = true => hsee (HS.out.1 e))
  clear hs1 hs2 hcut hsee hlc hlu
  have hv1 := hl1.lo; have hv2 := hl2.lo; have hv3 := hl3.lo; have hv4 := hu1.hi; have hv5 := hu2.hi; have hv6 := hu3.hi
  have i1 : I64 (u1 - 1) := ⟨by omega, by omega⟩
  have i2 : I64 (u2 - 1) := ⟨by omega, by omega⟩
  have i3 : I64 (u3 - 1) := ⟨by omega, by omega⟩
  go_wp2_with fail
  refine (gridClear W D H mp N mc mf sp K sc l1 l2 l3 c u2 u3 hl1 hl2 hl3 hc1 hu2 hu3 _ HM.out s1 HS1.out).mono ?_; rintro e U5 ⟨rfl, q⟩
  clear m0 m1 m2 m3 m4 cl0 cl1 cl2 cu0 cu1 cu2 cx0 cx1 cx2 cy0 cy1 cy2
  have O7 := O6.keep q
  have l7 := l6.keep q
  have u7 := u6.keep q
  have y7 := y6.keep q
  have HM := hid (HM.out.keep q)
  have HB := hid (btrans HB.out q)
  clear q O6 l6 u6 x6 y6
  obtain ⟨m0, m1, m2, m3, m4⟩ := O7.cells
  obtain ⟨cl0, cl1, cl2⟩ := l7.cells
  obtain ⟨cu0, cu1, cu2⟩ := u7.cells
  obtain ⟨cy0, cy1, cy2⟩ := y7.cells
  cases s1 with
  | false =>
    obtain rfl : s = false := by
      cases s with
      | false => rfl
      | true => exact absurd (hsum.out.1 rfl).1 (by decide)
    go_wp2
    go_ret
    have hfin := HB.out.alloc HB.out.size (.cells #[.int .i64 (u1 - 1), .int .i64 (u2 - 1), .int .i64 (u3 - 1)] 27)

    exact ⟨rfl, hfin⟩
  | true =>
    go_wp2_with fail
    refine (gridClear W D H mp N mc mf sp K sc c l2 l3 u1 u2 u3 hc1 hl2 hl3 hu1 hu2 hu3 _ HM.out s2 HS2.out).mono ?_; rintro e U6 ⟨rfl, q⟩
    clear m0 m1 m2 m3 m4 cl0 cl1 cl2 cu0 cu1 cu2 cy0 cy1 cy2
    have O8 := O7.keep q
    have l8 := l7.keep q
    have u8 := u7.keep q
    have HM := hid (HM.out.keep q)
    have HB := hid (btrans HB.out q)
    clear q O7 l7 u7 y7
    obtain ⟨cu0, cu1, cu2⟩ := u8.cells
    cases s2 with
    | false =>
      obtain rfl : s = false := by
        cases s with
        | false => rfl
        | true => exact absurd (hsum.out.1 rfl).2 (by decide)
      go_wp2
      go_ret
      have hfin := HB.out.alloc HB.out.size (.cells #[.int .i64 (u1 - 1), .int .i64 (u2 - 1), .int .i64 (u3 - 1)] 27)

      exact ⟨rfl, hfin⟩
    | true =>
      obtain rfl : s = true := hsum.out.2 (by simp)
      have O9 := O8.alloc (.cells #[.int .i64 (u1 - 1), .int .i64 (u2 - 1), .int .i64 (u3 - 1)] 27)
      have l9 := l8.alloc (.cells #[.int .i64 (u1 - 1), .int .i64 (u2 - 1), .int .i64 (u3 - 1)] 27)
      have HM9 := HM.out.keep ((Below.refl U6.heap.size U6).alloc (Nat.le_refl _) (.cells #[.int .i64 (u1 - 1), .int .i64 (u2 - 1), .int .i64 (u3 - 1)] 27))
      have HB9 := HB.out.alloc HB.out.size (.cells #[.int .i64 (u1 - 1), .int .i64 (u2 - 1), .int .i64 (u3 - 1)] 27)
      obtain ⟨m0, m1, m2, m3, m4⟩ := O9.cells
      obtain ⟨cl0, cl1, cl2⟩ := l9.cells
      go_wp2_with fail
      refine (gridSight W D H mp N mc mf sp K sc l1 l2 l3 (u1 - 1) (u2 - 1) (u3 - 1) hl1 hl2 hl3 i1 i2 i3 _ HM9 true ⟨fun _ => HSEE.out (by simp), fun _ => rfl⟩).mono ?_; rintro e U7 ⟨rfl, q⟩
      go_wp2
      go_ret
      exact ⟨rfl, hmb ▸ btrans HB9 q⟩
end Go.Proofs.Ytfcaekboonnmaaa
