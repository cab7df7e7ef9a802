/- Layer 10 (trace): the walk of the law TraceAxes. -/
import Derived.Test.YtpghdfleffgilaaTwA
namespace Go.Proofs.Ytpghdfleffgilaa
open Go.RowKit
set_option linter.unusedVariables false
set_option linter.unusedSimpArgs false
attribute [local go_sem ↓] Go.wp_at_zero Go.wp_at_succ

set_option maxRecDepth 100000 in
set_option maxHeartbeats 4000000 in
theorem traceAxes_walk (W D H : Int) (mp : Option Addr) (mn mc : Nat) (mf : Nat → Bool) (sp : Option Addr) (sn sc : Nat) (X Y Z : Nat → Int) (a1 a2 a3 : Int) (b1 b2 b3 : Int) (w : World) (hW : I64 W) (hD : I64 D) (hH : I64 H) (hm : Arg w mp mn mc fun i => .bool (mf i)) (hv : ArgW w sp sn sc X Y Z) (hX : ∀ i, I64 (X i) ∧ I64 (Y i) ∧ I64 (Z i)) (ha1 : I64 a1) (ha2 : I64 a2) (ha3 : I64 a3) (hb1 : I64 b1) (hb2 : I64 b2) (hb3 : I64 b3) :
    Calls Try.prog 5 #[.agg #[.int .i64 W, .int .i64 D, .int .i64 H, .slice mp mn mc, .slice sp sn sc], .agg #[.int .i64 a1, .int .i64 a2, .int .i64 a3], .agg #[.int .i64 b1, .int .i64 b2, .int .i64 b3]] w fun e w' => e = .returned (.bool true) ∧ Below w.heap.size w w' := by
  have hle := hm.le; have hmost := hm.most
  obtain ⟨N, hN⟩ : ∃ N, min mn 32768 = N := ⟨_, rfl⟩
  have hsm := fun V => trSmall W D H mp mn mc mf sp sn sc hle hmost V
  rw [hN] at hsm
  have HM0 := hid (hm.cut (show N ≤ mn by omega))
  have hN1 : N ≤ 32768 := by omega
  have hsh := trShown
  unfold maxLen at hmost
  clear hm hN
  have B0 : Below w.heap.size w (((w.alloc (.cells #[.int .i64 W, .int .i64 D, .int .i64 H, .slice mp mn mc, .slice sp sn sc] 25)).alloc (.cells #[.int .i64 a1, .int .i64 a2, .int .i64 a3] 27)).alloc (.cells #[.int .i64 b1, .int .i64 b2, .int .i64 b3] 27)) := (((Below.refl _ _).alloc (Nat.le_refl _) _).alloc (by simp) _).alloc (by simp; omega) _
  have O0 : O5 (((w.alloc (.cells #[.int .i64 W, .int .i64 D, .int .i64 H, .slice mp mn mc, .slice sp sn sc] 25)).alloc (.cells #[.int .i64 a1, .int .i64 a2, .int .i64 a3] 27)).alloc (.cells #[.int .i64 b1, .int .i64 b2, .int .i64 b3] 27)) (w.heap.size) (.int .i64 W) (.int .i64 D) (.int .i64 H) (.slice mp mn mc) (.slice sp sn sc) := ((O5.new _ _ _ _ _ _).alloc _).alloc _
  have a0 : O3 (((w.alloc (.cells #[.int .i64 W, .int .i64 D, .int .i64 H, .slice mp mn mc, .slice sp sn sc] 25)).alloc (.cells #[.int .i64 a1, .int .i64 a2, .int .i64 a3] 27)).alloc (.cells #[.int .i64 b1, .int .i64 b2, .int .i64 b3] 27)) (w.heap.size + 1) 27 (.int .i64 a1) (.int .i64 a2) (.int .i64 a3) := (O3.new' _ _ _ _ _ (by simp)).alloc _
  have b0 : O3 (((w.alloc (.cells #[.int .i64 W, .int .i64 D, .int .i64 H, .slice mp mn mc, .slice sp sn sc] 25)).alloc (.cells #[.int .i64 a1, .int .i64 a2, .int .i64 a3] 27)).alloc (.cells #[.int .i64 b1, .int .i64 b2, .int .i64 b3] 27)) (w.heap.size + 1 + 1) 27 (.int .i64 b1) (.int .i64 b2) (.int .i64 b3) := O3.new' _ _ _ _ _ (by simp)
  go_enter Try.func5, Try.ntmps5
  go_wp2_with fail
  refine (hsh _).mono ?_; rintro e V1 ⟨rfl, q1⟩
  have B1 := B0.trans (q1.mono B0.size)
  have O1 := O0.keep q1
  have a00 := a0.keep q1
  have b00 := b0.keep q1
  clear q1 B0 O0 hsh a0 b0
  obtain ⟨mb, hmb⟩ : ∃ b, w.heap.size = b := ⟨_, rfl⟩
  have hwm : w.heap.size ≤ mb := by omega
  rw [hmb] at a00
  have hna : mb + 1 ≠ mb := by omega
  rw [hmb] at b00
  have hnb : mb + 1 + 1 ≠ mb := by omega
  rw [hmb] at O1
  obtain ⟨m0, m1, m2, m3, m4⟩ := O1.cells
  try simp only [hmb]
  go_wp2_with fail
  refine (hsm _).mono ?_; rintro e V2 ⟨rfl, q2⟩
  have B2 := B1.trans (q2.mono B1.size)
  have O2 := O1.keep q2
  have a000 := a00.keep q2
  have b000 := b00.keep q2
  clear q2 B1 O1 m0 m1 m2 m3 m4 hsm a00 b00
  obtain ⟨m0, m1, m2, m3, m4⟩ := O2.cells
  obtain ⟨f0, f1, f2, f3, f4⟩ := O2.thaw
  have O := O2.set (.int .i64 W) (.int .i64 D) (.int .i64 H) (.slice mp N mc) (.slice sp sn sc)
  have a := a000.set5 hna (.int .i64 W) (.int .i64 D) (.int .i64 H) (.slice mp N mc) (.slice sp sn sc)
  have b := b000.set5 hnb (.int .i64 W) (.int .i64 D) (.int .i64 H) (.slice mp N mc) (.slice sp sn sc)
  have HBs := below_set5 B2 hwm (.int .i64 W) (.int .i64 D) (.int .i64 H) (.slice mp N mc) (.slice sp sn sc)
  clear O2 B2 a000 b000
  go_upto_region 3 with fail
  clear m0 m1 m2 m3 m4 f0 f1 f2 f3 f4
  generalize ((((V2.setCell ⟨mb, 0, none⟩ (.int .i64 W)).setCell ⟨mb, 1, none⟩ (.int .i64 D)).setCell ⟨mb, 2, none⟩ (.int .i64 H)).setCell ⟨mb, 3, none⟩ (.slice mp N mc)).setCell ⟨mb, 4, none⟩ (.slice sp sn sc) = U at *
  have HB := hid HBs
  have HM := hid (HM0.out.keep HBs)
  clear HBs HM0
  obtain ⟨R, hR⟩ := (mpOf W D H N mf).roomOf
  obtain ⟨p1, p2, p3, q1, q2, q3, hsp⟩ : ∃ X1 Y1 Z1 C1 C2 C3, Slid R a1 a2 a3 (fclamp b1 32768) (fclamp b2 32768) (fclamp b3 32768) X1 Y1 Z1 C1 C2 C3 := ⟨_, _, _, _, _, _, Slid.mk' _ _ _ _ _ _ _⟩
  obtain ⟨hp1, hp2, hp3⟩ := hsp.i64 ha1 ha2 ha3
  have HSp := hid hsp
  clear hsp
  obtain ⟨m0, m1, m2, m3, m4⟩ := O.cells
  obtain ⟨ca0, ca1, ca2⟩ := a.cells
  obtain ⟨cb0, cb1, cb2⟩ := b.cells
  go_wp2_with fail
  refine (traceSlide W D H mp N mc mf sp sn sc R hR a1 a2 a3 b1 b2 b3 ha1 ha2 ha3 hb1 hb2 hb3 _ _ _ _ _ _ HSp.out _ HM.out).mono ?_; rintro e V3 ⟨rfl, bq⟩
  replace O := O.keep bq
  replace a := a.keep bq
  replace b := b.keep bq
  replace HB := hid (btrans HB.out bq)
  replace HM := hid (HM.out.keep bq)
  clear bq
  clear m0 m1 m2 m3 m4 ca0 ca1 ca2 cb0 cb1 cb2
  go_upto_region 4 with fail
  have hnew := O3.new V3 27 (.int .i64 p1) (.int .i64 p2) (.int .i64 p3)
  have p := hnew.alloc (.cells #[.bool q1, .bool q2, .bool q3] 30)
  have q := O3.new (V3.alloc (.cells #[.int .i64 p1, .int .i64 p2, .int .i64 p3] 27)) 30 (.bool q1) (.bool q2) (.bool q3)
  have hz : (V3.alloc (.cells #[.int .i64 p1, .int .i64 p2, .int .i64 p3] 27)).heap.size = V3.heap.size + 1 := by simp
  rw [hz] at q
  have bqq : Below V3.heap.size V3 ((V3.alloc (.cells #[.int .i64 p1, .int .i64 p2, .int .i64 p3] 27)).alloc (.cells #[.bool q1, .bool q2, .bool q3] 30)) := ((Below.refl _ _).alloc (Nat.le_refl _) _).alloc (by simp) _
  replace O := O.keep bqq
  replace a := a.keep bqq
  replace b := b.keep bqq
  replace HB := hid (btrans HB.out bqq)
  replace HM := hid (HM.out.keep bqq)
  clear bqq hnew hz
  obtain ⟨kp, hkp⟩ : ∃ b, V3.heap.size = b := ⟨_, rfl⟩
  rw [hkp] at p q
  try simp only [hkp]
  generalize (V3.alloc (.cells #[.int .i64 p1, .int .i64 p2, .int .i64 p3] 27)).alloc (.cells #[.bool q1, .bool q2, .bool q3] 30) = U1 at *
  clear hkp
  obtain ⟨r1, r2, r3, s1, s2, s3, hsr⟩ : ∃ X1 Y1 Z1 C1 C2 C3, Slid R a1 a2 a3 (fclamp b1 32768) (fclamp 0 32768) (fclamp 0 32768) X1 Y1 Z1 C1 C2 C3 := ⟨_, _, _, _, _, _, Slid.mk' _ _ _ _ _ _ _⟩
  obtain ⟨hr1, hr2, hr3⟩ := hsr.i64 ha1 ha2 ha3
  have HSr := hid hsr
  clear hsr
  obtain ⟨m0, m1, m2, m3, m4⟩ := O.cells
  obtain ⟨ca0, ca1, ca2⟩ := a.cells
  obtain ⟨cb0, cb1, cb2⟩ := b.cells
  go_wp2_with fail
  refine (traceSlide W D H mp N mc mf sp sn sc R hR a1 a2 a3 b1 0 0 ha1 ha2 ha3 hb1 ⟨by omega, by omega⟩ ⟨by omega, by omega⟩ _ _ _ _ _ _ HSr.out _ HM.out).mono ?_; rintro e V4 ⟨rfl, bq⟩
  replace O := O.keep bq
  replace a := a.keep bq
  replace b := b.keep bq
  replace p := p.keep bq
  replace q := q.keep bq
  replace HB := hid (btrans HB.out bq)
  replace HM := hid (HM.out.keep bq)
  clear bq
  clear m0 m1 m2 m3 m4 ca0 ca1 ca2 cb0 cb1 cb2
  go_upto_region 5 with fail
  have hnew := O3.new V4 27 (.int .i64 r1) (.int .i64 r2) (.int .i64 r3)
  have r := hnew.alloc (.cells #[.bool s1, .bool s2, .bool s3] 30)
  have s := O3.new (V4.alloc (.cells #[.int .i64 r1, .int .i64 r2, .int .i64 r3] 27)) 30 (.bool s1) (.bool s2) (.bool s3)
  have hz : (V4.alloc (.cells #[.int .i64 r1, .int .i64 r2, .int .i64 r3] 27)).heap.size = V4.heap.size + 1 := by simp
  rw [hz] at s
  have bqq : Below V4.heap.size V4 ((V4.alloc (.cells #[.int .i64 r1, .int .i64 r2, .int .i64 r3] 27)).alloc (.cells #[.bool s1, .bool s2, .bool s3] 30)) := ((Below.refl _ _).alloc (Nat.le_refl _) _).alloc (by simp) _
  replace O := O.keep bqq
  replace a := a.keep bqq
  replace b := b.keep bqq
  replace p := p.keep bqq
  replace q := q.keep bqq
  replace HB := hid (btrans HB.out bqq)
  replace HM := hid (HM.out.keep bqq)
  clear bqq hnew hz
  obtain ⟨kr, hkr⟩ : ∃ b, V4.heap.size = b := ⟨_, rfl⟩
  rw [hkr] at r s
  try simp only [hkr]
  generalize (V4.alloc (.cells #[.int .i64 r1, .int .i64 r2, .int .i64 r3] 27)).alloc (.cells #[.bool s1, .bool s2, .bool s3] 30) = U2 at *
  clear hkr
  obtain ⟨t1, t2, t3, u1, u2, u3, hst⟩ : ∃ X1 Y1 Z1 C1 C2 C3, Slid R r1 r2 r3 (fclamp 0 32768) (fclamp b2 32768) (fclamp 0 32768) X1 Y1 Z1 C1 C2 C3 := ⟨_, _, _, _, _, _, Slid.mk' _ _ _ _ _ _ _⟩
  obtain ⟨ht1, ht2, ht3⟩ := hst.i64 hr1 hr2 hr3
  have HSt := hid hst
  clear hst
  obtain ⟨m0, m1, m2, m3, m4⟩ := O.cells
  obtain ⟨cr0, cr1, cr2⟩ := r.cells
  obtain ⟨cb0, cb1, cb2⟩ := b.cells
  go_wp2_with fail
  refine (traceSlide W D H mp N mc mf sp sn sc R hR r1 r2 r3 0 b2 0 hr1 hr2 hr3 ⟨by omega, by omega⟩ hb2 ⟨by omega, by omega⟩ _ _ _ _ _ _ HSt.out _ HM.out).mono ?_; rintro e V5 ⟨rfl, bq⟩
  replace O := O.keep bq
  replace a := a.keep bq
  replace b := b.keep bq
  replace p := p.keep bq
  replace q := q.keep bq
  replace r := r.keep bq
  replace s := s.keep bq
  replace HB := hid (btrans HB.out bq)
  replace HM := hid (HM.out.keep bq)
  clear bq
  clear m0 m1 m2 m3 m4 cr0 cr1 cr2 cb0 cb1 cb2
  go_upto_region 6 with fail
  have hnew := O3.new V5 27 (.int .i64 t1) (.int .i64 t2) (.int .i64 t3)
  have t := hnew.alloc (.cells #[.bool u1, .bool u2, .bool u3] 30)
  have u := O3.new (V5.alloc (.cells #[.int .i64 t1, .int .i64 t2, .int .i64 t3] 27)) 30 (.bool u1) (.bool u2) (.bool u3)
  have hz : (V5.alloc (.cells #[.int .i64 t1, .int .i64 t2, .int .i64 t3] 27)).heap.size = V5.heap.size + 1 := by simp
  rw [hz] at u
  have bqq : Below V5.heap.size V5 ((V5.alloc (.cells #[.int .i64 t1, .int .i64 t2, .int .i64 t3] 27)).alloc (.cells #[.bool u1, .bool u2, .bool u3] 30)) := ((Below.refl _ _).alloc (Nat.le_refl _) _).alloc (by simp) _
  replace O := O.keep bqq
  replace a := a.keep bqq
  replace b := b.keep bqq
  replace p := p.keep bqq
  replace q := q.keep bqq
  replace r := r.keep bqq
  replace s := s.keep bqq
  replace HB := hid (btrans HB.out bqq)
  replace HM := hid (HM.out.keep bqq)
  clear bqq hnew hz
  obtain ⟨kt, hkt⟩ : ∃ b, V5.heap.size = b := ⟨_, rfl⟩
  rw [hkt] at t u
  try simp only [hkt]
  generalize (V5.alloc (.cells #[.int .i64 t1, .int .i64 t2, .int .i64 t3] 27)).alloc (.cells #[.bool u1, .bool u2, .bool u3] 30) = U3 at *
  clear hkt
  obtain ⟨v1, v2, v3, x1, x2, x3, hsv⟩ : ∃ X1 Y1 Z1 C1 C2 C3, Slid R t1 t2 t3 (fclamp 0 32768) (fclamp 0 32768) (fclamp b3 32768) X1 Y1 Z1 C1 C2 C3 := ⟨_, _, _, _, _, _, Slid.mk' _ _ _ _ _ _ _⟩
  obtain ⟨hv1, hv2, hv3⟩ := hsv.i64 ht1 ht2 ht3
  have HSv := hid hsv
  clear hsv
  obtain ⟨m0, m1, m2, m3, m4⟩ := O.cells
  obtain ⟨ct0, ct1, ct2⟩ := t.cells
  obtain ⟨cb0, cb1, cb2⟩ := b.cells
  go_wp2_with fail
  refine (traceSlide W D H mp N mc mf sp sn sc R hR t1 t2 t3 0 0 b3 ht1 ht2 ht3 ⟨by omega, by omega⟩ ⟨by omega, by omega⟩ hb3 _ _ _ _ _ _ HSv.out _ HM.out).mono ?_; rintro e V6 ⟨rfl, bq⟩
  replace O := O.keep bq
  replace a := a.keep bq
  replace b := b.keep bq
  replace p := p.keep bq
  replace q := q.keep bq
  replace r := r.keep bq
  replace s := s.keep bq
  replace t := t.keep bq
  replace u := u.keep bq
  replace HB := hid (btrans HB.out bq)
  replace HM := hid (HM.out.keep bq)
  clear bq
  clear m0 m1 m2 m3 m4 ct0 ct1 ct2 cb0 cb1 cb2
  go_upto_region 7 with fail
  have hnew := O3.new V6 27 (.int .i64 v1) (.int .i64 v2) (.int .i64 v3)
  have v := hnew.alloc (.cells #[.bool x1, .bool x2, .bool x3] 30)
  have x := O3.new (V6.alloc (.cells #[.int .i64 v1, .int .i64 v2, .int .i64 v3] 27)) 30 (.bool x1) (.bool x2) (.bool x3)
  have hz : (V6.alloc (.cells #[.int .i64 v1, .int .i64 v2, .int .i64 v3] 27)).heap.size = V6.heap.size + 1 := by simp
  rw [hz] at x
  have bqq : Below V6.heap.size V6 ((V6.alloc (.cells #[.int .i64 v1, .int .i64 v2, .int .i64 v3] 27)).alloc (.cells #[.bool x1, .bool x2, .bool x3] 30)) := ((Below.refl _ _).alloc (Nat.le_refl _) _).alloc (by simp) _
  replace O := O.keep bqq
  replace a := a.keep bqq
  replace b := b.keep bqq
  replace p := p.keep bqq
  replace q := q.keep bqq
  replace r := r.keep bqq
  replace s := s.keep bqq
  replace t := t.keep bqq
  replace u := u.keep bqq
  replace HB := hid (btrans HB.out bqq)
  replace HM := hid (HM.out.keep bqq)
  clear bqq hnew hz
  obtain ⟨kv, hkv⟩ : ∃ b, V6.heap.size = b := ⟨_, rfl⟩
  rw [hkv] at v x
  try simp only [hkv]
  generalize (V6.alloc (.cells #[.int .i64 v1, .int .i64 v2, .int .i64 v3] 27)).alloc (.cells #[.bool x1, .bool x2, .bool x3] 30) = U4 at *
  clear hkv
  obtain ⟨y1, y2, y3, z1, z2, z3, hsy⟩ : ∃ X1 Y1 Z1 C1 C2 C3, Slid R a1 a2 a3 (fclamp 0 32768) (fclamp 0 32768) (fclamp 0 32768) X1 Y1 Z1 C1 C2 C3 := ⟨_, _, _, _, _, _, Slid.mk' _ _ _ _ _ _ _⟩
  obtain ⟨hy1, hy2, hy3⟩ := hsy.i64 ha1 ha2 ha3
  have HSy := hid hsy
  clear hsy
  obtain ⟨m0, m1, m2, m3, m4⟩ := O.cells
  obtain ⟨ca0, ca1, ca2⟩ := a.cells
  go_wp2_with fail
  refine (traceSlide W D H mp N mc mf sp sn sc R hR a1 a2 a3 0 0 0 ha1 ha2 ha3 ⟨by omega, by omega⟩ ⟨by omega, by omega⟩ ⟨by omega, by omega⟩ _ _ _ _ _ _ HSy.out _ HM.out).mono ?_; rintro e V7 ⟨rfl, bq⟩
  replace O := O.keep bq
  replace a := a.keep bq
  replace b := b.keep bq
  replace p := p.keep bq
  replace q := q.keep bq
  replace r := r.keep bq
  replace s := s.keep bq
  replace t := t.keep bq
  replace u := u.keep bq
  replace v := v.keep bq
  replace x := x.keep bq
  replace HB := hid (btrans HB.out bq)
  replace HM := hid (HM.out.keep bq)
  clear bq
  clear m0 m1 m2 m3 m4 ca0 ca1 ca2
  go_upto_region 8 with fail
  have hnew := O3.new V7 27 (.int .i64 y1) (.int .i64 y2) (.int .i64 y3)
  have y := hnew.alloc (.cells #[.bool z1, .bool z2, .bool z3] 30)
  have z := O3.new (V7.alloc (.cells #[.int .i64 y1, .int .i64 y2, .int .i64 y3] 27)) 30 (.bool z1) (.bool z2) (.bool z3)
  have hz : (V7.alloc (.cells #[.int .i64 y1, .int .i64 y2, .int .i64 y3] 27)).heap.size = V7.heap.size + 1 := by simp
  rw [hz] at z
  have bqq : Below V7.heap.size V7 ((V7.alloc (.cells #[.int .i64 y1, .int .i64 y2, .int .i64 y3] 27)).alloc (.cells #[.bool z1, .bool z2, .bool z3] 30)) := ((Below.refl _ _).alloc (Nat.le_refl _) _).alloc (by simp) _
  replace O := O.keep bqq
  replace a := a.keep bqq
  replace b := b.keep bqq
  replace p := p.keep bqq
  replace q := q.keep bqq
  replace r := r.keep bqq
  replace s := s.keep bqq
  replace t := t.keep bqq
  replace u := u.keep bqq
  replace v := v.keep bqq
  replace x := x.keep bqq
  replace HB := hid (btrans HB.out bqq)
  replace HM := hid (HM.out.keep bqq)
  clear bqq hnew hz
  obtain ⟨ky, hky⟩ : ∃ b, V7.heap.size = b := ⟨_, rfl⟩
  rw [hky] at y z
  try simp only [hky]
  generalize (V7.alloc (.cells #[.int .i64 y1, .int .i64 y2, .int .i64 y3] 27)).alloc (.cells #[.bool z1, .bool z2, .bool z3] 30) = U5 at *
  clear hky
  have e1 := HSp.out; have e2 := HSr.out; have e3 := HSt.out; have e4 := HSv.out; have e5 := HSy.out
  rw [cl_0] at e2 e3 e4 e5
  obtain ⟨g1, g2, g3, g4, g5, g6⟩ := Slid.axes ha1 ha2 ha3 e1 e2 e3 e4
  obtain ⟨l1, l2, l3, l4, l5, l6⟩ := e5.none ha1 ha2 ha3
  clear e1 e2 e3 e4 e5 HSp HSr HSt HSv HSy
  rw [g1, g2, g3] at v
  rw [g4, g5, g6] at q
  rw [l1, l2, l3] at y
  rw [l4, l5, l6] at z
  clear g1 g2 g3 g4 g5 g6 l1 l2 l3 l4 l5 l6
  obtain ⟨m0, m1, m2, m3, m4⟩ := O.cells
  obtain ⟨cv0, cv1, cv2⟩ := v.cells
  obtain ⟨cp0, cp1, cp2⟩ := p.cells
  obtain ⟨cq0, cq1, cq2⟩ := q.cells
  obtain ⟨cs0, cs1, cs2⟩ := s.cells
  obtain ⟨cu0, cu1, cu2⟩ := u.cells
  obtain ⟨cx0, cx1, cx2⟩ := x.cells
  obtain ⟨cy0, cy1, cy2⟩ := y.cells
  obtain ⟨ca0, ca1, ca2⟩ := a.cells
  obtain ⟨cz0, cz1, cz2⟩ := z.cells
  have he := eq3b
  go_wp2
  go_ret
  exact ⟨rfl, HB.out⟩
end Go.Proofs.Ytpghdfleffgilaa
