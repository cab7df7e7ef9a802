/- Layer 9 (grid): the walk of the law GridMore. -/
import Derived.Test.YtfcaekboonnmaaaGwJ
namespace Go.Proofs.Ytfcaekboonnmaaa
open Go.RowKit
set_option linter.unusedVariables false
set_option linter.unusedSimpArgs false
attribute [local go_sem ↓] Go.wp_at_zero Go.wp_at_succ

set_option maxRecDepth 100000 in
set_option maxHeartbeats 4000000 in
theorem gridMore_walk (W D H : Int) (mp : Option Addr) (mn mc : Nat) (mf : Nat → Bool) (sp : Option Addr) (sn sc : Nat) (X Y Z : Nat → Int) (a1 a2 a3 : Int) (b1 b2 b3 : Int) (x : Int) (w : World) (hW : I64 W) (hD : I64 D) (hH : I64 H) (hm : Arg w mp mn mc fun i => .bool (mf i)) (hv : ArgW w sp sn sc X Y Z) (hX : ∀ i, I64 (X i) ∧ I64 (Y i) ∧ I64 (Z i)) (ha1 : I64 a1) (ha2 : I64 a2) (ha3 : I64 a3) (hb1 : I64 b1) (hb2 : I64 b2) (hb3 : I64 b3) (hx : I64 x) :
    Calls Try.prog 7 #[.agg #[.int .i64 W, .int .i64 D, .int .i64 H, .slice mp mn mc, .slice sp sn sc], .agg #[.int .i64 a1, .int .i64 a2, .int .i64 a3], .agg #[.int .i64 b1, .int .i64 b2, .int .i64 b3], .int .i64 x] w fun e w' => e = .returned (.bool true) ∧ Below w.heap.size w w' := by
  obtain ⟨u, hu, hub⟩ := mask (m := 16777215) (x := x) (k := 24) rfl (by omega)
  have hle := hm.le; have hmost := hm.most; have hsle := hv.le; have hsmost := hv.most
  obtain ⟨N, hN⟩ : ∃ N, min mn 32768 = N := ⟨_, rfl⟩
  obtain ⟨K, hK⟩ : ∃ N, min sn 70 = N := ⟨_, rfl⟩
  have hsm := fun V => lawSmall W D H mp mn mc mf sp sn sc hle hmost hsle hsmost V
  rw [hN, hK] at hsm
  have HM0 := hid (hm.cut (show N ≤ mn by omega))
  have HV0 := hid (hv.cut (show K ≤ sn by omega))
  have hsh := lawShown
  have hN1 : N ≤ 32768 := by omega
  have hK1 : K ≤ 70 := by omega
  unfold maxLen at hmost hsmost
  clear hm hv hN hK
  have B0 : Below w.heap.size w (((w.alloc (.cells #[.int .i64 W, .int .i64 D, .int .i64 H, .slice mp mn mc, .slice sp sn sc] 25)).alloc (.cells #[.int .i64 a1, .int .i64 a2, .int .i64 a3] 27)).alloc (.cells #[.int .i64 b1, .int .i64 b2, .int .i64 b3] 27)) := (((Below.refl _ _).alloc (Nat.le_refl _) _).alloc (by simp) _).alloc (by simp; omega) _
  have O0 : O5 (((w.alloc (.cells #[.int .i64 W, .int .i64 D, .int .i64 H, .slice mp mn mc, .slice sp sn sc] 25)).alloc (.cells #[.int .i64 a1, .int .i64 a2, .int .i64 a3] 27)).alloc (.cells #[.int .i64 b1, .int .i64 b2, .int .i64 b3] 27)) (w.heap.size) (.int .i64 W) (.int .i64 D) (.int .i64 H) (.slice mp mn mc) (.slice sp sn sc) := ((O5.new _ _ _ _ _ _).alloc _).alloc _
  have a0 : B3 (((w.alloc (.cells #[.int .i64 W, .int .i64 D, .int .i64 H, .slice mp mn mc, .slice sp sn sc] 25)).alloc (.cells #[.int .i64 a1, .int .i64 a2, .int .i64 a3] 27)).alloc (.cells #[.int .i64 b1, .int .i64 b2, .int .i64 b3] 27)) (w.heap.size + 1) 27 a1 a2 a3 := (B3.new' _ _ _ _ _ (by simp)).alloc _
  have b0 : B3 (((w.alloc (.cells #[.int .i64 W, .int .i64 D, .int .i64 H, .slice mp mn mc, .slice sp sn sc] 25)).alloc (.cells #[.int .i64 a1, .int .i64 a2, .int .i64 a3] 27)).alloc (.cells #[.int .i64 b1, .int .i64 b2, .int .i64 b3] 27)) (w.heap.size + 1 + 1) 27 b1 b2 b3 := B3.new' _ _ _ _ _ (by simp)
  go_enter Try.func7, Try.ntmps7
  go_wp2_with fail
  refine (hsh _).mono ?_; rintro e V1 ⟨rfl, q1⟩
  have B1 := B0.trans (q1.mono B0.size)
  have O1 := O0.keep q1
  have a00 := a0.keep q1
  have b00 := b0.keep q1
  clear q1 B0 O0 a0 b0
  obtain ⟨mb, hmb⟩ : ∃ b, w.heap.size = b := ⟨_, rfl⟩
  have hwm : w.heap.size ≤ mb := by omega
  rw [hmb] at a00
  have hna : mb + 1 ≠ mb := by omega
  rw [hmb] at b00
  have hnb : mb + 1 + 1 ≠ mb := by omega
  rw [hmb] at O1
  obtain ⟨m0, m1, m2, m3, m4⟩ := O1.cells
  try rw [hmb]
  try simp only [hmb]
  go_wp2_with fail
  refine (hsm _).mono ?_; rintro e V2 ⟨rfl, q2⟩
  have B2 := B1.trans (q2.mono B1.size)
  have O2 := O1.keep q2
  have a000 := a00.keep q2
  have b000 := b00.keep q2
  clear q2 B1 O1 m0 m1 m2 m3 m4 hsm hsh a00 b00
  obtain ⟨m0, m1, m2, m3, m4⟩ := O2.cells
  obtain ⟨f0, f1, f2, f3, f4⟩ := O2.thaw
  have O3 := O2.set (.int .i64 W) (.int .i64 D) (.int .i64 H) (.slice mp N mc) (.slice sp K sc)
  have aq := a000.set5 hna (.int .i64 W) (.int .i64 D) (.int .i64 H) (.slice mp N mc) (.slice sp K sc)
  have bq := b000.set5 hnb (.int .i64 W) (.int .i64 D) (.int .i64 H) (.slice mp N mc) (.slice sp K sc)
  have HBs := below_set5 B2 hwm (.int .i64 W) (.int .i64 D) (.int .i64 H) (.slice mp N mc) (.slice sp K sc)
  clear O2 B2 a000 b000
  go_upto_region 3 with fail
  clear m0 m1 m2 m3 m4 f0 f1 f2 f3 f4
  generalize ((((V2.setCell ⟨mb, 0, none⟩ (.int .i64 W)).setCell ⟨mb, 1, none⟩ (.int .i64 D)).setCell ⟨mb, 2, none⟩ (.int .i64 H)).setCell ⟨mb, 3, none⟩ (.slice mp N mc)).setCell ⟨mb, 4, none⟩ (.slice sp K sc) = U at *
  obtain ⟨m0, m1, m2, m3, m4⟩ := O3.cells
  obtain ⟨ca0, ca1, ca2⟩ := aq.cells
  obtain ⟨cb0, cb1, cb2⟩ := bq.cells
  have HB := hid HBs
  have HM := hid (HM0.out.keep HBs)
  have HV := hid (HV0.out.keep HBs)
  clear HBs HM0 HV0
  by_cases h0 : N = 0
  · subst h0
    have hno : ¬ (mpOf W D H 0 mf).Sees ⟨a1, a2, a3⟩ ⟨b1, b2, b3⟩ := fun e => none_free e.ends.1
    go_wp2_with fail
    refine (gridSight W D H mp 0 mc mf sp K sc a1 a2 a3 b1 b2 b3 ha1 ha2 ha3 hb1 hb2 hb3 _ HM.out false ⟨fun e => absurd e (by decide), fun e => absurd e hno⟩).mono ?_; rintro e U3 ⟨rfl, q⟩
    go_wp2
    go_ret
    exact ⟨rfl, by have hfin := btrans HB.out q; first | exact hfin | exact hmb ▸ hfin⟩
  have hN0 : 0 < N := by omega
  have hNz : ((N : Int) == 0) = false := beq_eq_false_iff_ne.2 (by omega)
  obtain ⟨kk, hkk⟩ : ∃ k, u % N = k := ⟨_, rfl⟩
  have hkl : kk < N := by rw [← hkk]; exact Nat.mod_lt _ hN0
  have htm : Int.tmod (u : Int) (N : Int) = (kk : Int) := by rw [Int.tmod_eq_emod_of_nonneg (by omega)]; rw [← hkk]; omega
  have HKK := hid hkk
  clear hkk
  have O4 := O3.alloc (.cells #[.int .i64 W, .int .i64 D, .int .i64 H, .slice mp N mc, .slice sp K sc] 25)
  have X4 := O5.new U (.int .i64 W) (.int .i64 D) (.int .i64 H) (.slice mp N mc) (.slice sp K sc)
  have a4 := aq.alloc (.cells #[.int .i64 W, .int .i64 D, .int .i64 H, .slice mp N mc, .slice sp K sc] 25)
  have b4 := bq.alloc (.cells #[.int .i64 W, .int .i64 D, .int .i64 H, .slice mp N mc, .slice sp K sc] 25)
  have HB4 := HB.out.alloc HB.out.size (.cells #[.int .i64 W, .int .i64 D, .int .i64 H, .slice mp N mc, .slice sp K sc] 25)
  have HBU := hid ((Below.refl U.heap.size U).alloc (Nat.le_refl _) (.cells #[.int .i64 W, .int .i64 D, .int .i64 H, .slice mp N mc, .slice sp K sc] 25))
  have HM4 := HM.out.keep ((Below.refl U.heap.size U).alloc (Nat.le_refl _) (.cells #[.int .i64 W, .int .i64 D, .int .i64 H, .slice mp N mc, .slice sp K sc] 25))
  have hwx : w.heap.size ≤ U.heap.size := HB.out.size
  go_upto_region 6 with fail
  obtain ⟨xb, hxb⟩ : ∃ b, U.heap.size = b := ⟨_, rfl⟩
  have hxm : mb ≠ xb := by have := O3.lt; omega
  have hxa : mb + 1 ≠ xb := by have := aq.lt; omega
  have hxc : mb + 1 + 1 ≠ xb := by have := bq.lt; omega
  rw [hxb] at X4 hwx
  try simp only [hxb]
  generalize U.alloc (.cells #[.int .i64 W, .int .i64 D, .int .i64 H, .slice mp N mc, .slice sp K sc] 25) = U4 at *
  clear m0 m1 m2 m3 m4 ca0 ca1 ca2 cb0 cb1 cb2 O3 aq bq HB
  obtain ⟨g, cap, W2, hap, hgb, hBs, hB2⟩ := copyB 22 HM4 hN1 hN0
  have hgx : xb < g := Nat.lt_of_lt_of_le X4.lt hgb
  have hgm : mb < g := Nat.lt_of_lt_of_le O4.lt hgb
  have hga : mb + 1 < g := Nat.lt_of_lt_of_le a4.lt hgb
  have hgc : mb + 1 + 1 < g := Nat.lt_of_lt_of_le b4.lt hgb
  have O5' := O4.keep hB2
  have X5 := X4.keep hB2
  have a5 := a4.keep hB2
  have b5 := b4.keep hB2
  have HB5 := HB4.trans (hB2.mono HB4.size)
  have HBU5 := hid (HBU.out.trans (hB2.mono HBU.out.size))
  have m3 := Lib.cell?_alloc_some (.cells #[] 4) O4.cells.2.2.2.1
  obtain ⟨x0, x1, x2, x3, x4⟩ := X5.cells
  obtain ⟨f0, f1, f2, f3, f4⟩ := X5.thaw
  have X6 := X5.set3 (.slice (some ⟨g, 0, none⟩) N cap)
  have O6 := O5'.other hxm (o := 3) (.slice (some ⟨g, 0, none⟩) N cap)
  have a6 := a5.other hxa (o := 3) (.slice (some ⟨g, 0, none⟩) N cap)
  have b6 := b5.other hxc (o := 3) (.slice (some ⟨g, 0, none⟩) N cap)
  have Bs6 := hBs.other (Nat.ne_of_gt hgx) (o := 3) (.slice (some ⟨g, 0, none⟩) N cap)
  have HB6 := HB5.setCell (p := ⟨xb, 3, none⟩) hwx (.slice (some ⟨g, 0, none⟩) N cap)
  have hF6 : Fr (fun k => k = xb) W2 (W2.setCell ⟨xb, 3, none⟩ (.slice (some ⟨g, 0, none⟩) N cap)) := (Fr.refl (fun k => k = xb) W2).setCell (p := ⟨xb, 3, none⟩) rfl _
  have HBU6 := hid (HBU5.out.setCell (p := ⟨xb, 3, none⟩) (show U.heap.size ≤ xb by omega) (.slice (some ⟨g, 0, none⟩) N cap))
  have hUg : U.heap.size ≤ g := by omega
  clear O4 X4 a4 b4 HB4 hB2 hgb O5' X5 a5 b5 hBs HB5 HBU HBU5 HM4 hF6
  go_upto_region 7 with (first | (at_builtin; refine Lib.wpList_append_run _ rfl _ _ _ _ rfl _ _ rfl rfl _ _ hap ?_))
  generalize W2.setCell ⟨xb, 3, none⟩ (.slice (some ⟨g, 0, none⟩) N cap) = U6 at *
  clear m3 x0 x1 x2 x3 x4 f0 f1 f2 f3 f4 hap
  obtain ⟨m0, m1, m2, m3, m4⟩ := O6.cells
  obtain ⟨x0, x1, x2, x3, x4⟩ := X6.cells
  obtain ⟨gc, gf⟩ := Bs6.cell hkl
  have hkl' : (kk : Int) < (N : Int) := by omega
  have hle2 := Bs6.le
  go_region
  have Bs7 := (Bs6.set hkl true).keep (below_drewN _ 1)
  have O7 := (O6.other (Nat.ne_of_lt hgm) (o := kk) (.bool true)).keep (below_drewN _ 1)
  have X7 := (X6.other (Nat.ne_of_lt hgx) (o := kk) (.bool true)).keep (below_drewN _ 1)
  have a7 := (a6.other (Nat.ne_of_lt hga) (o := kk) (.bool true)).keep (below_drewN _ 1)
  have b7 := (b6.other (Nat.ne_of_lt hgc) (o := kk) (.bool true)).keep (below_drewN _ 1)
  have HB7 : Below w.heap.size w (U6.setCell ⟨g, kk, none⟩ (.bool true)).drew := (HB6.setCell (p := ⟨g, kk, none⟩) (show w.heap.size ≤ g by omega) (.bool true)).drew
  have HM7 := hid (HM.out.keep (show Below U.heap.size U (U6.setCell ⟨g, kk, none⟩ (.bool true)).drew from (HBU6.out.setCell (p := ⟨g, kk, none⟩) hUg (.bool true)).drew))
  clear Bs6 O6 X6 a6 b6 HB6 HBU6 m0 m1 m2 m3 m4 x0 x1 x2 x3 x4 gc gf
  change Bs (U6.setCell ⟨g, kk, none⟩ (.bool true)).drew g N cap (turnAt mf kk true) at Bs7
  change O5 (U6.setCell ⟨g, kk, none⟩ (.bool true)).drew _ _ _ _ _ _ at O7
  change O5 (U6.setCell ⟨g, kk, none⟩ (.bool true)).drew _ _ _ _ _ _ at X7
  change B3 (U6.setCell ⟨g, kk, none⟩ (.bool true)).drew _ _ _ _ _ at a7
  change B3 (U6.setCell ⟨g, kk, none⟩ (.bool true)).drew _ _ _ _ _ at b7
  generalize (U6.setCell ⟨g, kk, none⟩ (.bool true)).drew = U7 at *
  obtain ⟨p1, hp1⟩ := boolOf ((mpOf W D H N (turnAt mf kk true)).Sees ⟨a1, a2, a3⟩ ⟨b1, b2, b3⟩)
  obtain ⟨p2, hp2⟩ := boolOf ((mpOf W D H N mf).Sees ⟨a1, a2, a3⟩ ⟨b1, b2, b3⟩)
  obtain ⟨q1, hq1⟩ := boolOf ((mpOf W D H N (turnAt mf kk true)).Clear ⟨a1, a2, a3⟩ ⟨b1, b2, b3⟩)
  obtain ⟨q2, hq2⟩ := boolOf ((mpOf W D H N mf).Clear ⟨a1, a2, a3⟩ ⟨b1, b2, b3⟩)
  have hpp := hid (fun e : p1 = true => hp2.2 ((hp1.1 e).mono (fun x y z => free_more)))
  have hqq := hid (fun e : q1 = true => hq2.2 ((hq1.1 e).mono (fun x y z => free_more)))
  have HP1 := Tells.mk hp1; have HP2 := Tells.mk hp2; have HQ1 := Tells.mk hq1; have HQ2 := Tells.mk hq2
  have BS := hid Bs7
  have HB := hid HB7
  clear hp1 hp2 hq1 hq2 Bs7 HB7 HM HKK hgx hgm hga hgc hxm hxa hxc hwx hUg
  obtain ⟨m0, m1, m2, m3, m4⟩ := O7.cells
  obtain ⟨x0, x1, x2, x3, x4⟩ := X7.cells
  obtain ⟨ca0, ca1, ca2⟩ := a7.cells
  obtain ⟨cb0, cb1, cb2⟩ := b7.cells
  go_wp2_with fail
  refine (gridSight W D H (some ⟨g, 0, none⟩) N cap (turnAt mf kk true) sp K sc a1 a2 a3 b1 b2 b3 ha1 ha2 ha3 hb1 hb2 hb3 _ BS.out.arg p1 HP1.iff).mono ?_; rintro e V1 ⟨rfl, q⟩
  clear m0 m1 m2 m3 m4 x0 x1 x2 x3 x4 ca0 ca1 ca2 cb0 cb1 cb2
  have O7 := O7.keep q
  have X7 := X7.keep q
  have a7 := a7.keep q
  have b7 := b7.keep q
  have BS := hid (BS.out.keep q)
  have HM7 := hid (HM7.out.keep q)
  have HB := hid (btrans HB.out q)
  clear q
  obtain ⟨m0, m1, m2, m3, m4⟩ := O7.cells
  obtain ⟨x0, x1, x2, x3, x4⟩ := X7.cells
  obtain ⟨ca0, ca1, ca2⟩ := a7.cells
  obtain ⟨cb0, cb1, cb2⟩ := b7.cells
  cases p1 with
  | true =>
    obtain rfl : p2 = true := hpp.out (by simp)
    go_wp2_with fail
    refine (gridSight W D H mp N mc mf sp K sc a1 a2 a3 b1 b2 b3 ha1 ha2 ha3 hb1 hb2 hb3 _ HM7.out true HP2.iff).mono ?_; rintro e V2 ⟨rfl, q⟩
    clear m0 m1 m2 m3 m4 x0 x1 x2 x3 x4 ca0 ca1 ca2 cb0 cb1 cb2
    have O7 := O7.keep q
    have X7 := X7.keep q
    have a7 := a7.keep q
    have b7 := b7.keep q
    have BS := hid (BS.out.keep q)
    have HM7 := hid (HM7.out.keep q)
    have HB := hid (btrans HB.out q)
    clear q
    obtain ⟨m0, m1, m2, m3, m4⟩ := O7.cells
    obtain ⟨x0, x1, x2, x3, x4⟩ := X7.cells
    obtain ⟨ca0, ca1, ca2⟩ := a7.cells
    obtain ⟨cb0, cb1, cb2⟩ := b7.cells
    go_wp2_with fail
    refine (gridClear W D H (some ⟨g, 0, none⟩) N cap (turnAt mf kk true) sp K sc a1 a2 a3 b1 b2 b3 ha1 ha2 ha3 hb1 hb2 hb3 _ BS.out.arg q1 HQ1.iff).mono ?_; rintro e V3 ⟨rfl, q⟩
    clear m0 m1 m2 m3 m4 x0 x1 x2 x3 x4 ca0 ca1 ca2 cb0 cb1 cb2
    have O7 := O7.keep q
    have X7 := X7.keep q
    have a7 := a7.keep q
    have b7 := b7.keep q
    have BS := hid (BS.out.keep q)
    have HM7 := hid (HM7.out.keep q)
    have HB := hid (btrans HB.out q)
    clear q
    obtain ⟨m0, m1, m2, m3, m4⟩ := O7.cells
    obtain ⟨x0, x1, x2, x3, x4⟩ := X7.cells
    obtain ⟨ca0, ca1, ca2⟩ := a7.cells
    obtain ⟨cb0, cb1, cb2⟩ := b7.cells
    cases q1 with
    | true =>
      obtain rfl : q2 = true := hqq.out (by simp)
      go_wp2_with fail
      refine (gridClear W D H mp N mc mf sp K sc a1 a2 a3 b1 b2 b3 ha1 ha2 ha3 hb1 hb2 hb3 _ HM7.out true HQ2.iff).mono ?_; rintro e V4 ⟨rfl, q⟩
      clear m0 m1 m2 m3 m4 x0 x1 x2 x3 x4 ca0 ca1 ca2 cb0 cb1 cb2
      have O7 := O7.keep q
      have X7 := X7.keep q
      have a7 := a7.keep q
      have b7 := b7.keep q
      have BS := hid (BS.out.keep q)
      have HM7 := hid (HM7.out.keep q)
      have HB := hid (btrans HB.out q)
      clear q
      obtain ⟨m0, m1, m2, m3, m4⟩ := O7.cells
      obtain ⟨x0, x1, x2, x3, x4⟩ := X7.cells
      obtain ⟨ca0, ca1, ca2⟩ := a7.cells
      obtain ⟨cb0, cb1, cb2⟩ := b7.cells
      go_wp2
      go_ret
      exact ⟨rfl, by have hfin := HB.out; first | exact hfin | exact hmb ▸ hfin⟩
    | false =>
      go_wp2
      go_ret
      exact ⟨rfl, by have hfin := HB.out; first | exact hfin | exact hmb ▸ hfin⟩
  | false =>
    go_wp2_with fail
    refine (gridClear W D H (some ⟨g, 0, none⟩) N cap (turnAt mf kk true) sp K sc a1 a2 a3 b1 b2 b3 ha1 ha2 ha3 hb1 hb2 hb3 _ BS.out.arg q1 HQ1.iff).mono ?_; rintro e V3 ⟨rfl, q⟩
    clear m0 m1 m2 m3 m4 x0 x1 x2 x3 x4 ca0 ca1 ca2 cb0 cb1 cb2
    have O7 := O7.keep q
    have X7 := X7.keep q
    have a7 := a7.keep q
    have b7 := b7.keep q
    have BS := hid (BS.out.keep q)
    have HM7 := hid (HM7.out.keep q)
    have HB := hid (btrans HB.out q)
    clear q
    obtain ⟨m0, m1, m2, m3, m4⟩ := O7.cells
    obtain ⟨x0, x1, x2, x3, x4⟩ := X7.cells
    obtain ⟨ca0, ca1, ca2⟩ := a7.cells
    obtain ⟨cb0, cb1, cb2⟩ := b7.cells
    cases q1 with
    | true =>
      obtain rfl : q2 = true := hqq.out (by simp)
      go_wp2_with fail
      refine (gridClear W D H mp N mc mf sp K sc a1 a2 a3 b1 b2 b3 ha1 ha2 ha3 hb1 hb2 hb3 _ HM7.out true HQ2.iff).mono ?_; rintro e V4 ⟨rfl, q⟩
      clear m0 m1 m2 m3 m4 x0 x1 x2 x3 x4 ca0 ca1 ca2 cb0 cb1 cb2
      have O7 := O7.keep q
      have X7 := X7.keep q
      have a7 := a7.keep q
      have b7 := b7.keep q
      have BS := hid (BS.out.keep q)
      have HM7 := hid (HM7.out.keep q)
      have HB := hid (btrans HB.out q)
      clear q
      obtain ⟨m0, m1, m2, m3, m4⟩ := O7.cells
      obtain ⟨x0, x1, x2, x3, x4⟩ := X7.cells
      obtain ⟨ca0, ca1, ca2⟩ := a7.cells
      obtain ⟨cb0, cb1, cb2⟩ := b7.cells
      go_wp2
      go_ret
      exact ⟨rfl, by have hfin := HB.out; first | exact hfin | exact hmb ▸ hfin⟩
    | false =>
      go_wp2
      go_ret
      exact ⟨rfl, by have hfin := HB.out; first | exact hfin | exact hmb ▸ hfin⟩
end Go.Proofs.Ytfcaekboonnmaaa
