/- Layer 10 (trace): the walk of the law TraceMore. -/
import Derived.Test.YtpghdfleffgilaaTwA
namespace Go.Proofs.Ytpghdfleffgilaa
open Go.RowKit
set_option linter.unusedVariables false
set_option linter.unusedSimpArgs false
attribute [local go_sem ↓] Go.wp_at_zero Go.wp_at_succ

set_option maxRecDepth 100000 in
set_option maxHeartbeats 4000000 in
theorem traceMore_walk (W D H : Int) (mp : Option Addr) (mn mc : Nat) (mf : Nat → Bool) (sp : Option Addr) (sn sc : Nat) (X Y Z : Nat → Int) (a1 a2 a3 : Int) (x : Int) (w : World) (hW : I64 W) (hD : I64 D) (hH : I64 H) (hm : Arg w mp mn mc fun i => .bool (mf i)) (hv : ArgW w sp sn sc X Y Z) (hX : ∀ i, I64 (X i) ∧ I64 (Y i) ∧ I64 (Z i)) (ha1 : I64 a1) (ha2 : I64 a2) (ha3 : I64 a3) (hx : I64 x) :
    Calls Try.prog 7 #[.agg #[.int .i64 W, .int .i64 D, .int .i64 H, .slice mp mn mc, .slice sp sn sc], .agg #[.int .i64 a1, .int .i64 a2, .int .i64 a3], .int .i64 x] w fun e w' => e = .returned (.bool true) ∧ Below w.heap.size w w' := by
  obtain ⟨u, hu, hub⟩ := mask (m := 16777215) (x := x) (k := 24) rfl (by omega)
  have hle := hm.le; have hmost := hm.most
  obtain ⟨N, hN⟩ : ∃ N, min mn 32768 = N := ⟨_, rfl⟩
  have hsm := fun V => trSmall W D H mp mn mc mf sp sn sc hle hmost V
  rw [hN] at hsm
  have HM0 := hid (hm.cut (show N ≤ mn by omega))
  have hN1 : N ≤ 32768 := by omega
  have hsh := trShown
  unfold maxLen at hmost
  clear hm hN
  have B0 : Below w.heap.size w ((w.alloc (.cells #[.int .i64 W, .int .i64 D, .int .i64 H, .slice mp mn mc, .slice sp sn sc] 25)).alloc (.cells #[.int .i64 a1, .int .i64 a2, .int .i64 a3] 27)) := ((Below.refl _ _).alloc (Nat.le_refl _) _).alloc (by simp) _
  have O0 : O5 ((w.alloc (.cells #[.int .i64 W, .int .i64 D, .int .i64 H, .slice mp mn mc, .slice sp sn sc] 25)).alloc (.cells #[.int .i64 a1, .int .i64 a2, .int .i64 a3] 27)) (w.heap.size) (.int .i64 W) (.int .i64 D) (.int .i64 H) (.slice mp mn mc) (.slice sp sn sc) := (O5.new _ _ _ _ _ _).alloc _
  have a0 : O3 ((w.alloc (.cells #[.int .i64 W, .int .i64 D, .int .i64 H, .slice mp mn mc, .slice sp sn sc] 25)).alloc (.cells #[.int .i64 a1, .int .i64 a2, .int .i64 a3] 27)) (w.heap.size + 1) 27 (.int .i64 a1) (.int .i64 a2) (.int .i64 a3) := O3.new' _ _ _ _ _ (by simp)
  go_enter Try.func7, Try.ntmps7
  go_wp2_with fail
  refine (hsh _).mono ?_; rintro e V1 ⟨rfl, q1⟩
  have B1 := B0.trans (q1.mono B0.size)
  have O1 := O0.keep q1
  have a00 := a0.keep q1
  clear q1 B0 O0 hsh a0
  obtain ⟨mb, hmb⟩ : ∃ b, w.heap.size = b := ⟨_, rfl⟩
  have hwm : w.heap.size ≤ mb := by omega
  rw [hmb] at a00
  have hna : mb + 1 ≠ mb := by omega
  rw [hmb] at O1
  obtain ⟨m0, m1, m2, m3, m4⟩ := O1.cells
  try simp only [hmb]
  go_wp2_with fail
  refine (hsm _).mono ?_; rintro e V2 ⟨rfl, q2⟩
  have B2 := B1.trans (q2.mono B1.size)
  have O2 := O1.keep q2
  have a000 := a00.keep q2
  clear q2 B1 O1 m0 m1 m2 m3 m4 hsm a00
  obtain ⟨m0, m1, m2, m3, m4⟩ := O2.cells
  obtain ⟨f0, f1, f2, f3, f4⟩ := O2.thaw
  have O := O2.set (.int .i64 W) (.int .i64 D) (.int .i64 H) (.slice mp N mc) (.slice sp sn sc)
  have a := a000.set5 hna (.int .i64 W) (.int .i64 D) (.int .i64 H) (.slice mp N mc) (.slice sp sn sc)
  have HBs := below_set5 B2 hwm (.int .i64 W) (.int .i64 D) (.int .i64 H) (.slice mp N mc) (.slice sp sn sc)
  clear O2 B2 a000
  go_upto_region 3 with fail
  clear m0 m1 m2 m3 m4 f0 f1 f2 f3 f4
  generalize ((((V2.setCell ⟨mb, 0, none⟩ (.int .i64 W)).setCell ⟨mb, 1, none⟩ (.int .i64 D)).setCell ⟨mb, 2, none⟩ (.int .i64 H)).setCell ⟨mb, 3, none⟩ (.slice mp N mc)).setCell ⟨mb, 4, none⟩ (.slice sp sn sc) = U at *
  have HB := hid HBs
  have HM := hid (HM0.out.keep HBs)
  clear HBs HM0
  obtain ⟨R, hR⟩ := (mpOf W D H N mf).roomOf
  obtain ⟨m0, m1, m2, m3, m4⟩ := O.cells
  obtain ⟨ca0, ca1, ca2⟩ := a.cells
  by_cases h0 : N = 0
  · subst h0
    have hno : R a1 a2 a3 = false := by
      cases h : R a1 a2 a3 with
      | false => rfl
      | true => exact absurd (Mp.Room.cell ha1 ha2 ha3 ((hR _ _ _).1 h)) none_free
    go_wp2_with fail
    refine (traceFree W D H mp 0 mc mf sp sn sc R hR a1 a2 a3 ha1 ha2 ha3 _ HM.out).mono ?_; rintro e U3 ⟨rfl, q⟩
    rw [hno]
    go_wp2
    go_ret
    exact ⟨rfl, btrans HB.out q⟩
  have hN0 : 0 < N := by omega
  have hNz : ((N : Int) == 0) = false := beq_eq_false_iff_ne.2 (by omega)
  obtain ⟨kk, hkk⟩ : ∃ k, u % N = k := ⟨_, rfl⟩
  have hkl : kk < N := by rw [← hkk]; exact Nat.mod_lt _ hN0
  have htm : Int.tmod (u : Int) (N : Int) = (kk : Int) := by rw [Int.tmod_eq_emod_of_nonneg (by omega)]; rw [← hkk]; omega
  have HKK := hid hkk
  clear hkk
  have O4 := O.alloc (.cells #[.int .i64 W, .int .i64 D, .int .i64 H, .slice mp N mc, .slice sp sn sc] 25)
  have X4 := O5.new U (.int .i64 W) (.int .i64 D) (.int .i64 H) (.slice mp N mc) (.slice sp sn sc)
  have a4 := a.alloc (.cells #[.int .i64 W, .int .i64 D, .int .i64 H, .slice mp N mc, .slice sp sn sc] 25)
  have HB4 := HB.out.alloc HB.out.size (.cells #[.int .i64 W, .int .i64 D, .int .i64 H, .slice mp N mc, .slice sp sn sc] 25)
  have HBU := hid ((Below.refl U.heap.size U).alloc (Nat.le_refl _) (.cells #[.int .i64 W, .int .i64 D, .int .i64 H, .slice mp N mc, .slice sp sn sc] 25))
  have HM4 := HM.out.keep ((Below.refl U.heap.size U).alloc (Nat.le_refl _) (.cells #[.int .i64 W, .int .i64 D, .int .i64 H, .slice mp N mc, .slice sp sn sc] 25))
  have hwx : w.heap.size ≤ U.heap.size := HB.out.size
  go_upto_region 6 with fail
  obtain ⟨xb, hxb⟩ : ∃ b, U.heap.size = b := ⟨_, rfl⟩
  have hxm : mb ≠ xb := by have := O.lt; omega
  have hxa : mb + 1 ≠ xb := by have := a.lt; omega
  rw [hxb] at X4 hwx
  try simp only [hxb]
  generalize U.alloc (.cells #[.int .i64 W, .int .i64 D, .int .i64 H, .slice mp N mc, .slice sp sn sc] 25) = U4 at *
  clear m0 m1 m2 m3 m4 ca0 ca1 ca2 O a HB
  obtain ⟨g, cap, W2, hap, hgb, hBs, hB2⟩ := copyB 22 HM4 hN1 hN0
  have hgx : xb < g := Nat.lt_of_lt_of_le X4.lt hgb
  have hgm : mb < g := Nat.lt_of_lt_of_le O4.lt hgb
  have hga : mb + 1 < g := Nat.lt_of_lt_of_le a4.lt hgb
  have O5' := O4.keep hB2
  have X5 := X4.keep hB2
  have a5 := a4.keep hB2
  have HB5 := HB4.trans (hB2.mono HB4.size)
  have HBU5 := hid (HBU.out.trans (hB2.mono HBU.out.size))
  have m3 := Lib.cell?_alloc_some (.cells #[] 4) O4.cells.2.2.2.1
  obtain ⟨x0, x1, x2, x3, x4⟩ := X5.cells
  obtain ⟨f0, f1, f2, f3, f4⟩ := X5.thaw
  have X6 := X5.set3 (.slice (some ⟨g, 0, none⟩) N cap)
  have O6 := O5'.other hxm (o := 3) (.slice (some ⟨g, 0, none⟩) N cap)
  have a6 := a5.other hxa (o := 3) (.slice (some ⟨g, 0, none⟩) N cap)
  have Bs6 := hBs.other (Nat.ne_of_gt hgx) (o := 3) (.slice (some ⟨g, 0, none⟩) N cap)
  have HB6 := HB5.setCell (p := ⟨xb, 3, none⟩) hwx (.slice (some ⟨g, 0, none⟩) N cap)
  have hF6 : Fr (fun k => k = xb) W2 (W2.setCell ⟨xb, 3, none⟩ (.slice (some ⟨g, 0, none⟩) N cap)) := (Fr.refl (fun k => k = xb) W2).setCell (p := ⟨xb, 3, none⟩) rfl _
  have HBU6 := hid (HBU5.out.setCell (p := ⟨xb, 3, none⟩) (show U.heap.size ≤ xb by omega) (.slice (some ⟨g, 0, none⟩) N cap))
  have hUg : U.heap.size ≤ g := by omega
  clear O4 X4 a4 HB4 hB2 hgb O5' X5 a5 hBs HB5 HBU HBU5 HM4 hF6
  go_upto_region 7 with (first | (at_builtin; refine Lib.wpList_append_run _ rfl _ _ _ _ rfl _ _ rfl rfl _ _ hap ?_))
  generalize W2.setCell ⟨xb, 3, none⟩ (.slice (some ⟨g, 0, none⟩) N cap) = U6 at *
  clear m3 x0 x1 x2 x3 x4 f0 f1 f2 f3 f4 hap
  obtain ⟨m0, m1, m2, m3, m4⟩ := O6.cells
  obtain ⟨x0, x1, x2, x3, x4⟩ := X6.cells
  obtain ⟨gc, gf⟩ := Bs6.cell hkl
  have hkl' : (kk : Int) < (N : Int) := by omega
  have hle2 := Bs6.le
  go_region
  have Bs7 := (Bs6.set hkl true).keep (below_drewN _ 1)
  have O7 := (O6.other (Nat.ne_of_lt hgm) (o := kk) (.bool true)).keep (below_drewN _ 1)
  have X7 := (X6.other (Nat.ne_of_lt hgx) (o := kk) (.bool true)).keep (below_drewN _ 1)
  have a7 := (a6.other (Nat.ne_of_lt hga) (o := kk) (.bool true)).keep (below_drewN _ 1)
  have HB7 : Below w.heap.size w (U6.setCell ⟨g, kk, none⟩ (.bool true)).drew := (HB6.setCell (p := ⟨g, kk, none⟩) (show w.heap.size ≤ g by omega) (.bool true)).drew
  have HM7 := hid (HM.out.keep (show Below U.heap.size U (U6.setCell ⟨g, kk, none⟩ (.bool true)).drew from (HBU6.out.setCell (p := ⟨g, kk, none⟩) hUg (.bool true)).drew))
  clear Bs6 O6 X6 a6 HB6 HBU6 m0 m1 m2 m3 m4 x0 x1 x2 x3 x4 gc gf
  change Bs (U6.setCell ⟨g, kk, none⟩ (.bool true)).drew g N cap (turnAt mf kk true) at Bs7
  change O5 (U6.setCell ⟨g, kk, none⟩ (.bool true)).drew _ _ _ _ _ _ at O7
  change O5 (U6.setCell ⟨g, kk, none⟩ (.bool true)).drew _ _ _ _ _ _ at X7
  change O3 (U6.setCell ⟨g, kk, none⟩ (.bool true)).drew _ _ _ _ _ at a7
  generalize (U6.setCell ⟨g, kk, none⟩ (.bool true)).drew = U7 at *
  clear HM
  obtain ⟨R2, hR2⟩ := (mpOf W D H N (turnAt mf kk true)).roomOf
  have hmono : R2 a1 a2 a3 = true → R a1 a2 a3 = true := fun h => (hR _ _ _).2 (((hR2 _ _ _).1 h).mono fun x y z => free_more)
  obtain ⟨x0, x1, x2, x3, x4⟩ := X7.cells
  obtain ⟨ca0, ca1, ca2⟩ := a7.cells
  go_wp2_with fail
  refine (traceFree W D H (some ⟨g, 0, none⟩) N cap (turnAt mf kk true) sp sn sc R2 hR2 a1 a2 a3 ha1 ha2 ha3 _ Bs7.arg).mono ?_; rintro e U8 ⟨rfl, q⟩
  replace O7 := O7.keep q; replace a7 := a7.keep q; replace HB7 := hid (btrans HB7 q); replace HM7 := hid (HM7.out.keep q)
  clear q x0 x1 x2 x3 x4 ca0 ca1 ca2 Bs7 X7
  obtain ⟨f, hf⟩ : ∃ f, R2 a1 a2 a3 = f := ⟨_, rfl⟩
  rw [hf] at hmono ⊢
  clear hf
  cases f with
  | false =>
    go_wp2
    go_ret
    exact ⟨rfl, HB7.out⟩
  | true =>
    have hr := hmono rfl
    obtain ⟨m0, m1, m2, m3, m4⟩ := O7.cells
    obtain ⟨ca0, ca1, ca2⟩ := a7.cells
    go_wp2_with fail
    refine (traceFree W D H mp N mc mf sp sn sc R hR a1 a2 a3 ha1 ha2 ha3 _ HM7.out).mono ?_; rintro e U9 ⟨rfl, q⟩
    rw [hr]
    go_wp2
    go_ret
    exact ⟨rfl, btrans HB7.out q⟩
end Go.Proofs.Ytpghdfleffgilaa
