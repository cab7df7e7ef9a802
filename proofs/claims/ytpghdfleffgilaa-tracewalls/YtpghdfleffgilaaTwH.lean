/- Layer 10 (trace): the walk of the law TraceWalls. -/
import Derived.Test.YtpghdfleffgilaaTwI
namespace Go.Proofs.Ytpghdfleffgilaa
open Go.RowKit
set_option linter.unusedVariables false
set_option linter.unusedSimpArgs false
attribute [local go_sem ↓] Go.wp_at_zero Go.wp_at_succ

set_option maxRecDepth 100000 in
set_option maxHeartbeats 4000000 in
theorem traceWalls_walk (W D H : Int) (mp : Option Addr) (mn mc : Nat) (mf : Nat → Bool) (sp : Option Addr) (sn sc : Nat) (X Y Z : Nat → Int) (a1 a2 a3 : Int) (lp : Option Addr) (ln lc : Nat) (zf : Nat → Int) (t : Int) (w : World) (hW : I64 W) (hD : I64 D) (hH : I64 H) (hm : Arg w mp mn mc fun i => .bool (mf i)) (hv : ArgW w sp sn sc X Y Z) (hX : ∀ i, I64 (X i) ∧ I64 (Y i) ∧ I64 (Z i)) (ha1 : I64 a1) (ha2 : I64 a2) (ha3 : I64 a3) (hl : Arg w lp ln lc fun i => .int .i64 (zf i)) (hz : ∀ i, I64 (zf i)) (ht : I64 t) :
    Calls Try.prog 6 #[.agg #[.int .i64 W, .int .i64 D, .int .i64 H, .slice mp mn mc, .slice sp sn sc], .agg #[.int .i64 a1, .int .i64 a2, .int .i64 a3], .slice lp ln lc, .int .i64 t] w fun e w' => e = .returned (.bool true) ∧ Below w.heap.size w w' := by
  obtain ⟨u, hu, hub⟩ := mask (m := 255) (x := t) (k := 8) rfl (by omega)
  obtain ⟨r, hr3, htm⟩ : ∃ r : Int, (r = 0 ∨ r = 1 ∨ r = 2) ∧ Int.tmod (u : Int) 3 = r := ⟨_, by rw [Int.tmod_eq_emod_of_nonneg (by omega)]; omega, rfl⟩
  have HL := hid hl; have HZ := hid hz
  have lle := hl.le; have lmost := hl.most
  unfold maxLen at lmost
  clear hl hz
  have hle := hm.le; have hmost := hm.most
  obtain ⟨N, hN⟩ : ∃ N, min mn 32768 = N := ⟨_, rfl⟩
  have hsm := fun V => trSmall W D H mp mn mc mf sp sn sc hle hmost V
  rw [hN] at hsm
  have HM0 := hid (hm.cut (show N ≤ mn by omega))
  have hN1 : N ≤ 32768 := by omega
  have hsh := trShown
  unfold maxLen at hmost
  clear hm hN
  have B0 : Below w.heap.size w ((w.alloc (.cells #[.int .i64 W, .int .i64 D, .int .i64 H, .slice mp mn mc, .slice sp sn sc] 25)).alloc (.cells #[.int .i64 a1, .int .i64 a2, .int .i64 a3] 27)) := ((Below.refl _ _).alloc (Nat.le_refl _) _).alloc (by simp) _
  have O0 : O5 ((w.alloc (.cells #[.int .i64 W, .int .i64 D, .int .i64 H, .slice mp mn mc, .slice sp sn sc] 25)).alloc (.cells #[.int .i64 a1, .int .i64 a2, .int .i64 a3] 27)) (w.heap.size) (.int .i64 W) (.int .i64 D) (.int .i64 H) (.slice mp mn mc) (.slice sp sn sc) := (O5.new _ _ _ _ _ _).alloc _
  have a0 : O3 ((w.alloc (.cells #[.int .i64 W, .int .i64 D, .int .i64 H, .slice mp mn mc, .slice sp sn sc] 25)).alloc (.cells #[.int .i64 a1, .int .i64 a2, .int .i64 a3] 27)) (w.heap.size + 1) 27 (.int .i64 a1) (.int .i64 a2) (.int .i64 a3) := O3.new' _ _ _ _ _ (by simp)
  go_enter Try.func6, Try.ntmps6
  go_wp2_with fail
  refine (hsh _).mono ?_; rintro e V1 ⟨rfl, q1⟩
  have B1 := B0.trans (q1.mono B0.size)
  have O1 := O0.keep q1
  have a00 := a0.keep q1
  clear q1 B0 O0 hsh a0
  obtain ⟨mb, hmb⟩ : ∃ b, w.heap.size = b := ⟨_, rfl⟩
  have hwm : w.heap.size ≤ mb := by omega
  rw [hmb] at a00
  have hna : mb + 1 ≠ mb := by omega
  rw [hmb] at O1
  obtain ⟨m0, m1, m2, m3, m4⟩ := O1.cells
  try simp only [hmb]
  go_wp2_with fail
  refine (hsm _).mono ?_; rintro e V2 ⟨rfl, q2⟩
  have B2 := B1.trans (q2.mono B1.size)
  have O2 := O1.keep q2
  have a000 := a00.keep q2
  clear q2 B1 O1 m0 m1 m2 m3 m4 hsm a00
  obtain ⟨m0, m1, m2, m3, m4⟩ := O2.cells
  obtain ⟨f0, f1, f2, f3, f4⟩ := O2.thaw
  have O := O2.set (.int .i64 W) (.int .i64 D) (.int .i64 H) (.slice mp N mc) (.slice sp sn sc)
  have a := a000.set5 hna (.int .i64 W) (.int .i64 D) (.int .i64 H) (.slice mp N mc) (.slice sp sn sc)
  have HBs := below_set5 B2 hwm (.int .i64 W) (.int .i64 D) (.int .i64 H) (.slice mp N mc) (.slice sp sn sc)
  clear O2 B2 a000
  go_upto_region 3 with fail
  clear m0 m1 m2 m3 m4 f0 f1 f2 f3 f4
  generalize ((((V2.setCell ⟨mb, 0, none⟩ (.int .i64 W)).setCell ⟨mb, 1, none⟩ (.int .i64 D)).setCell ⟨mb, 2, none⟩ (.int .i64 H)).setCell ⟨mb, 3, none⟩ (.slice mp N mc)).setCell ⟨mb, 4, none⟩ (.slice sp sn sc) = U at *
  have HB := hid HBs
  clear HBs
  obtain ⟨R, hR⟩ := (mpOf W D H N mf).roomOf
  obtain ⟨m0, m1, m2, m3, m4⟩ := O.cells
  obtain ⟨ca0, ca1, ca2⟩ := a.cells
  go_wp2_with fail
  refine (traceFree W D H mp N mc mf sp sn sc R hR a1 a2 a3 ha1 ha2 ha3 _ (HM0.out.keep HB.out)).mono ?_; rintro e V3 ⟨rfl, bq⟩
  replace O := O.keep bq
  replace a := a.keep bq
  replace HB := hid (btrans HB.out bq)
  clear bq
  clear m0 m1 m2 m3 m4 ca0 ca1 ca2
  obtain ⟨f, hf⟩ : ∃ f, R a1 a2 a3 = f := ⟨_, rfl⟩
  rw [hf]
  cases f with
  | false =>
    go_wp2
    go_ret
    exact ⟨rfl, HB.out⟩
  | true =>
    replace hf := hid hf
    go_wp2
    go_loopw [10] (fun v wr => ∃ (j : Nat) (x1 x2 x3 : Int), v = .int .i64 j ∧ j ≤ ln ∧ j ≤ 30 ∧ Hid (R x1 x2 x3 = true) ∧ I64 x1 ∧ I64 x2 ∧ I64 x3 ∧ O5 wr mb (.int .i64 W) (.int .i64 D) (.int .i64 H) (.slice mp N mc) (.slice sp sn sc) ∧ O3 wr (mb + 1) 27 (.int .i64 x1) (.int .i64 x2) (.int .i64 x3) ∧ Hid (Below w.heap.size w wr)) (fun v _ => 30 - (intOf v).toNat)
    case atStart => exact ⟨0, a1, a2, a3, rfl, Nat.zero_le _, by omega, hf, ha1, ha2, ha3, O, a, HB⟩
    case round =>
      clear O a HB hf
      obtain ⟨j, x1, x2, x3, rfl, hj, hj30, hf, hx1, hx2, hx3, O, x, HB⟩ := hrel
      by_cases h1 : j < ln
      · by_cases h2 : j < 30
        · skip
          obtain ⟨lb, lo, rfl, hlb, hlc⟩ := (HL.out.keep HB.out).at h1
          have hc := hlc j h1
          obtain ⟨z, hzj⟩ : ∃ z, zf j = z := ⟨_, rfl⟩
          have hzi := HZ.out j
          rw [hzj] at hc hzi
          clear hlc hzj
          go_upto_region 9 with fail
          have y := O3.new wr 27 (.int .i64 0) (.int .i64 0) (.int .i64 0)
          have hxy := x.lt; have hoy := O.lt
          replace O := O.alloc (.cells #[.int .i64 0, .int .i64 0, .int .i64 0] 27)
          replace x := x.alloc (.cells #[.int .i64 0, .int .i64 0, .int .i64 0] 27)
          replace HB := hid (HB.out.alloc HB.out.size (.cells #[.int .i64 0, .int .i64 0, .int .i64 0] 27))
          replace hc := Lib.cell?_alloc_some (.cells #[.int .i64 0, .int .i64 0, .int .i64 0] 27) hc
          have hwy : w.heap.size ≤ wr.heap.size := by have := HB.out.size; simp at this; omega
          obtain ⟨yb, hyb⟩ : ∃ b, wr.heap.size = b := ⟨_, rfl⟩
          rw [hyb] at y hxy hoy hwy hlb
          try simp only [hyb]
          generalize wr.alloc (.cells #[.int .i64 0, .int .i64 0, .int .i64 0] 27) = U1 at *
          clear hyb
          skip
          rcases hr3 with rfl | hr3
          · skip
            obtain ⟨y0, y1, y2⟩ := y.cells
            obtain ⟨f0, f1, f2⟩ := y.thaw
            go_upto_region 15 with fail
            replace y := y.set0 (.int .i64 z)
            replace O := O.other (show mb ≠ yb by omega) (o := 0) (.int .i64 z)
            replace x := x.other (show mb + 1 ≠ yb by omega) (o := 0) (.int .i64 z)
            replace HB := hid (HB.out.setCell (p := ⟨yb, 0, none⟩) hwy (.int .i64 z))
            clear y0 y1 y2 f0 f1 f2 hc
            generalize U1.setCell ⟨yb, 0, none⟩ (.int .i64 z) = U2 at *
            obtain ⟨p1, p2, p3, q1, q2, q3, hsp⟩ : ∃ X1 Y1 Z1 C1 C2 C3, Slid R x1 x2 x3 (fclamp z 32768) (fclamp 0 32768) (fclamp 0 32768) X1 Y1 Z1 C1 C2 C3 := ⟨_, _, _, _, _, _, Slid.mk' _ _ _ _ _ _ _⟩
            obtain ⟨hp1, hp2, hp3⟩ := hsp.i64 hx1 hx2 hx3
            have HSp := hid hsp
            clear hsp
            obtain ⟨m0, m1, m2, m3, m4⟩ := O.cells
            obtain ⟨cx0, cx1, cx2⟩ := x.cells
            obtain ⟨cy0, cy1, cy2⟩ := y.cells
            go_wp2_with fail
            refine (traceSlide W D H mp N mc mf sp sn sc R hR x1 x2 x3 z 0 0 hx1 hx2 hx3 hzi ⟨by omega, by omega⟩ ⟨by omega, by omega⟩ _ _ _ _ _ _ HSp.out _ (HM0.out.keep HB.out)).mono ?_; rintro e V4 ⟨rfl, bq⟩
            replace O := O.keep bq
            replace x := x.keep bq
            replace y := y.keep bq
            replace HB := hid (btrans HB.out bq)
            clear bq
            clear m0 m1 m2 m3 m4 cx0 cx1 cx2 cy0 cy1 cy2
            go_upto_region 16 with fail
            have hnew := O3.new V4 27 (.int .i64 p1) (.int .i64 p2) (.int .i64 p3)
            have p := hnew.alloc (.cells #[.bool q1, .bool q2, .bool q3] 30)
            have q := O3.new (V4.alloc (.cells #[.int .i64 p1, .int .i64 p2, .int .i64 p3] 27)) 30 (.bool q1) (.bool q2) (.bool q3)
            have hz : (V4.alloc (.cells #[.int .i64 p1, .int .i64 p2, .int .i64 p3] 27)).heap.size = V4.heap.size + 1 := by simp
            rw [hz] at q
            have bqq : Below V4.heap.size V4 ((V4.alloc (.cells #[.int .i64 p1, .int .i64 p2, .int .i64 p3] 27)).alloc (.cells #[.bool q1, .bool q2, .bool q3] 30)) := ((Below.refl _ _).alloc (Nat.le_refl _) _).alloc (by simp) _
            replace O := O.keep bqq
            replace x := x.keep bqq
            replace y := y.keep bqq
            replace HB := hid (btrans HB.out bqq)
            clear bqq hnew hz
            obtain ⟨kp, hkp⟩ : ∃ b, V4.heap.size = b := ⟨_, rfl⟩
            rw [hkp] at p q
            try simp only [hkp]
            generalize (V4.alloc (.cells #[.int .i64 p1, .int .i64 p2, .int .i64 p3] 27)).alloc (.cells #[.bool q1, .bool q2, .bool q3] 30) = U3 at *
            clear hkp
            have e1 := HSp.out
            rw [cl_0] at e1
            obtain ⟨s0, s1⟩ := e1.sees hR hx1 hx2 hx3 (cl_near _) (by omega) (by omega) hf.out (.inl ⟨rfl, rfl⟩)
            clear e1 HSp
            replace s1 := hid s1; replace s0 := hid s0
            obtain ⟨m0, m1, m2, m3, m4⟩ := O.cells
            obtain ⟨cx0, cx1, cx2⟩ := x.cells
            obtain ⟨cp0, cp1, cp2⟩ := p.cells
            go_wp2_with fail
            refine (gridSight W D H mp N mc mf sp sn sc x1 x2 x3 p1 p2 p3 hx1 hx2 hx3 hp1 hp2 hp3 _ (HM0.out.keep HB.out) true ⟨fun _ => s0.out, fun _ => rfl⟩).mono ?_; rintro e V5 ⟨rfl, bq⟩
            replace O := O.keep bq
            replace x := x.keep bq
            replace y := y.keep bq
            replace p := p.keep bq
            replace q := q.keep bq
            replace HB := hid (btrans HB.out bq)
            clear bq
            clear m0 m1 m2 m3 m4 cx0 cx1 cx2 cp0 cp1 cp2
            obtain ⟨cp0, cp1, cp2⟩ := p.cells
            obtain ⟨cx0, cx1, cx2⟩ := x.cells
            obtain ⟨f0, f1, f2⟩ := x.thaw
            have xn := x.set (.int .i64 p1) (.int .i64 p2) (.int .i64 p3)
            have On := O.others (show mb ≠ mb + 1 by omega) (.int .i64 p1) (.int .i64 p2) (.int .i64 p3)
            have HBn := hid (below_set3 HB.out (show w.heap.size ≤ mb + 1 by omega) (.int .i64 p1) (.int .i64 p2) (.int .i64 p3))
            clear O HB
            go_wp2
            exact ⟨⟨j + 1, p1, p2, p3, by go_num, by omega, by omega, s1, hp1, hp2, hp3, On, xn, HBn⟩, by simp [intOf]; omega⟩
          rcases hr3 with rfl | rfl
          · skip
            obtain ⟨y0, y1, y2⟩ := y.cells
            obtain ⟨f0, f1, f2⟩ := y.thaw
            go_upto_region 15 with fail
            replace y := y.set1 (.int .i64 z)
            replace O := O.other (show mb ≠ yb by omega) (o := 1) (.int .i64 z)
            replace x := x.other (show mb + 1 ≠ yb by omega) (o := 1) (.int .i64 z)
            replace HB := hid (HB.out.setCell (p := ⟨yb, 1, none⟩) hwy (.int .i64 z))
            clear y0 y1 y2 f0 f1 f2 hc
            generalize U1.setCell ⟨yb, 1, none⟩ (.int .i64 z) = U2 at *
            obtain ⟨p1, p2, p3, q1, q2, q3, hsp⟩ : ∃ X1 Y1 Z1 C1 C2 C3, Slid R x1 x2 x3 (fclamp 0 32768) (fclamp z 32768) (fclamp 0 32768) X1 Y1 Z1 C1 C2 C3 := ⟨_, _, _, _, _, _, Slid.mk' _ _ _ _ _ _ _⟩
            obtain ⟨hp1, hp2, hp3⟩ := hsp.i64 hx1 hx2 hx3
            have HSp := hid hsp
            clear hsp
            obtain ⟨m0, m1, m2, m3, m4⟩ := O.cells
            obtain ⟨cx0, cx1, cx2⟩ := x.cells
            obtain ⟨cy0, cy1, cy2⟩ := y.cells
            go_wp2_with fail
            refine (traceSlide W D H mp N mc mf sp sn sc R hR x1 x2 x3 0 z 0 hx1 hx2 hx3 ⟨by omega, by omega⟩ hzi ⟨by omega, by omega⟩ _ _ _ _ _ _ HSp.out _ (HM0.out.keep HB.out)).mono ?_; rintro e V4 ⟨rfl, bq⟩
            replace O := O.keep bq
            replace x := x.keep bq
            replace y := y.keep bq
            replace HB := hid (btrans HB.out bq)
            clear bq
            clear m0 m1 m2 m3 m4 cx0 cx1 cx2 cy0 cy1 cy2
            go_upto_region 16 with fail
            have hnew := O3.new V4 27 (.int .i64 p1) (.int .i64 p2) (.int .i64 p3)
            have p := hnew.alloc (.cells #[.bool q1, .bool q2, .bool q3] 30)
            have q := O3.new (V4.alloc (.cells #[.int .i64 p1, .int .i64 p2, .int .i64 p3] 27)) 30 (.bool q1) (.bool q2) (.bool q3)
            have hz : (V4.alloc (.cells #[.int .i64 p1, .int .i64 p2, .int .i64 p3] 27)).heap.size = V4.heap.size + 1 := by simp
            rw [hz] at q
            have bqq : Below V4.heap.size V4 ((V4.alloc (.cells #[.int .i64 p1, .int .i64 p2, .int .i64 p3] 27)).alloc (.cells #[.bool q1, .bool q2, .bool q3] 30)) := ((Below.refl _ _).alloc (Nat.le_refl _) _).alloc (by simp) _
            replace O := O.keep bqq
            replace x := x.keep bqq
            replace y := y.keep bqq
            replace HB := hid (btrans HB.out bqq)
            clear bqq hnew hz
            obtain ⟨kp, hkp⟩ : ∃ b, V4.heap.size = b := ⟨_, rfl⟩
            rw [hkp] at p q
            try simp only [hkp]
            generalize (V4.alloc (.cells #[.int .i64 p1, .int .i64 p2, .int .i64 p3] 27)).alloc (.cells #[.bool q1, .bool q2, .bool q3] 30) = U3 at *
            clear hkp
            have e1 := HSp.out
            rw [cl_0] at e1
            obtain ⟨s0, s1⟩ := e1.sees hR hx1 hx2 hx3 (by omega) (cl_near _) (by omega) hf.out (.inr (.inl ⟨rfl, rfl⟩))
            clear e1 HSp
            replace s1 := hid s1; replace s0 := hid s0
            obtain ⟨m0, m1, m2, m3, m4⟩ := O.cells
            obtain ⟨cx0, cx1, cx2⟩ := x.cells
            obtain ⟨cp0, cp1, cp2⟩ := p.cells
            go_wp2_with fail
            refine (gridSight W D H mp N mc mf sp sn sc x1 x2 x3 p1 p2 p3 hx1 hx2 hx3 hp1 hp2 hp3 _ (HM0.out.keep HB.out) true ⟨fun _ => s0.out, fun _ => rfl⟩).mono ?_; rintro e V5 ⟨rfl, bq⟩
            replace O := O.keep bq
            replace x := x.keep bq
            replace y := y.keep bq
            replace p := p.keep bq
            replace q := q.keep bq
            replace HB := hid (btrans HB.out bq)
            clear bq
            clear m0 m1 m2 m3 m4 cx0 cx1 cx2 cp0 cp1 cp2
            obtain ⟨cp0, cp1, cp2⟩ := p.cells
            obtain ⟨cx0, cx1, cx2⟩ := x.cells
            obtain ⟨f0, f1, f2⟩ := x.thaw
            have xn := x.set (.int .i64 p1) (.int .i64 p2) (.int .i64 p3)
            have On := O.others (show mb ≠ mb + 1 by omega) (.int .i64 p1) (.int .i64 p2) (.int .i64 p3)
            have HBn := hid (below_set3 HB.out (show w.heap.size ≤ mb + 1 by omega) (.int .i64 p1) (.int .i64 p2) (.int .i64 p3))
            clear O HB
            go_wp2
            exact ⟨⟨j + 1, p1, p2, p3, by go_num, by omega, by omega, s1, hp1, hp2, hp3, On, xn, HBn⟩, by simp [intOf]; omega⟩
          skip
          · skip
            obtain ⟨y0, y1, y2⟩ := y.cells
            obtain ⟨f0, f1, f2⟩ := y.thaw
            go_upto_region 15 with fail
            replace y := y.set2 (.int .i64 z)
            replace O := O.other (show mb ≠ yb by omega) (o := 2) (.int .i64 z)
            replace x := x.other (show mb + 1 ≠ yb by omega) (o := 2) (.int .i64 z)
            replace HB := hid (HB.out.setCell (p := ⟨yb, 2, none⟩) hwy (.int .i64 z))
            clear y0 y1 y2 f0 f1 f2 hc
            generalize U1.setCell ⟨yb, 2, none⟩ (.int .i64 z) = U2 at *
            obtain ⟨p1, p2, p3, q1, q2, q3, hsp⟩ : ∃ X1 Y1 Z1 C1 C2 C3, Slid R x1 x2 x3 (fclamp 0 32768) (fclamp 0 32768) (fclamp z 32768) X1 Y1 Z1 C1 C2 C3 := ⟨_, _, _, _, _, _, Slid.mk' _ _ _ _ _ _ _⟩
            obtain ⟨hp1, hp2, hp3⟩ := hsp.i64 hx1 hx2 hx3
            have HSp := hid hsp
            clear hsp
            obtain ⟨m0, m1, m2, m3, m4⟩ := O.cells
            obtain ⟨cx0, cx1, cx2⟩ := x.cells
            obtain ⟨cy0, cy1, cy2⟩ := y.cells
            go_wp2_with fail
            refine (traceSlide W D H mp N mc mf sp sn sc R hR x1 x2 x3 0 0 z hx1 hx2 hx3 ⟨by omega, by omega⟩ ⟨by omega, by omega⟩ hzi _ _ _ _ _ _ HSp.out _ (HM0.out.keep HB.out)).mono ?_; rintro e V4 ⟨rfl, bq⟩
            replace O := O.keep bq
            replace x := x.keep bq
            replace y := y.keep bq
            replace HB := hid (btrans HB.out bq)
            clear bq
            clear m0 m1 m2 m3 m4 cx0 cx1 cx2 cy0 cy1 cy2
            go_upto_region 16 with fail
            have hnew := O3.new V4 27 (.int .i64 p1) (.int .i64 p2) (.int .i64 p3)
            have p := hnew.alloc (.cells #[.bool q1, .bool q2, .bool q3] 30)
            have q := O3.new (V4.alloc (.cells #[.int .i64 p1, .int .i64 p2, .int .i64 p3] 27)) 30 (.bool q1) (.bool q2) (.bool q3)
            have hz : (V4.alloc (.cells #[.int .i64 p1, .int .i64 p2, .int .i64 p3] 27)).heap.size = V4.heap.size + 1 := by simp
            rw [hz] at q
            have bqq : Below V4.heap.size V4 ((V4.alloc (.cells #[.int .i64 p1, .int .i64 p2, .int .i64 p3] 27)).alloc (.cells #[.bool q1, .bool q2, .bool q3] 30)) := ((Below.refl _ _).alloc (Nat.le_refl _) _).alloc (by simp) _
            replace O := O.keep bqq
            replace x := x.keep bqq
            replace y := y.keep bqq
            replace HB := hid (btrans HB.out bqq)
            clear bqq hnew hz
            obtain ⟨kp, hkp⟩ : ∃ b, V4.heap.size = b := ⟨_, rfl⟩
            rw [hkp] at p q
            try simp only [hkp]
            generalize (V4.alloc (.cells #[.int .i64 p1, .int .i64 p2, .int .i64 p3] 27)).alloc (.cells #[.bool q1, .bool q2, .bool q3] 30) = U3 at *
            clear hkp
            have e1 := HSp.out
            rw [cl_0] at e1
            obtain ⟨s0, s1⟩ := e1.sees hR hx1 hx2 hx3 (by omega) (by omega) (cl_near _) hf.out (.inr (.inr ⟨rfl, rfl⟩))
            clear e1 HSp
            replace s1 := hid s1; replace s0 := hid s0
            obtain ⟨m0, m1, m2, m3, m4⟩ := O.cells
            obtain ⟨cx0, cx1, cx2⟩ := x.cells
            obtain ⟨cp0, cp1, cp2⟩ := p.cells
            go_wp2_with fail
            refine (gridSight W D H mp N mc mf sp sn sc x1 x2 x3 p1 p2 p3 hx1 hx2 hx3 hp1 hp2 hp3 _ (HM0.out.keep HB.out) true ⟨fun _ => s0.out, fun _ => rfl⟩).mono ?_; rintro e V5 ⟨rfl, bq⟩
            replace O := O.keep bq
            replace x := x.keep bq
            replace y := y.keep bq
            replace p := p.keep bq
            replace q := q.keep bq
            replace HB := hid (btrans HB.out bq)
            clear bq
            clear m0 m1 m2 m3 m4 cx0 cx1 cx2 cp0 cp1 cp2
            obtain ⟨cp0, cp1, cp2⟩ := p.cells
            obtain ⟨cx0, cx1, cx2⟩ := x.cells
            obtain ⟨f0, f1, f2⟩ := x.thaw
            have xn := x.set (.int .i64 p1) (.int .i64 p2) (.int .i64 p3)
            have On := O.others (show mb ≠ mb + 1 by omega) (.int .i64 p1) (.int .i64 p2) (.int .i64 p3)
            have HBn := hid (below_set3 HB.out (show w.heap.size ≤ mb + 1 by omega) (.int .i64 p1) (.int .i64 p2) (.int .i64 p3))
            clear O HB
            go_wp2
            exact ⟨⟨j + 1, p1, p2, p3, by go_num, by omega, by omega, s1, hp1, hp2, hp3, On, xn, HBn⟩, by simp [intOf]; omega⟩
        · go_wp2
          go_ret
          exact ⟨rfl, HB.out⟩
      · go_wp2
        go_ret
        exact ⟨rfl, HB.out⟩
end Go.Proofs.Ytpghdfleffgilaa
