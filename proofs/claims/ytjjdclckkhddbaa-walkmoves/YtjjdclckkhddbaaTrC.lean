/- Layer 10 (trace): the contract of Slide. -/
import Derived.Test.YtjjdclckkhddbaaTrB
namespace Go.Proofs.Ytjjdclckkhddbaa
open Go.RowKit
set_option linter.unusedVariables false
set_option linter.unusedSimpArgs false
attribute [local go_sem ↓] Go.wp_at_zero Go.wp_at_succ

/-- How Slide's boxes lie. -/
structure SlSt (w V : World) (mb bb kb : Nat) (W D H : Int) (mp : Option Addr) (mn mc : Nat) (sp : Option Addr) (sn sc : Nat) (p q r : Int) (x y z : Int) (c1 c2 c3 : Bool) : Prop where
  h0 : w.heap.size ≤ mb
  h1 : mb + 1 + 1 + 1 + 1 < bb
  h2 : bb < kb
  O : O5 V mb (.int .i64 W) (.int .i64 D) (.int .i64 H) (.slice mp mn mc) (.slice sp sn sc)
  P : O3 V (mb + 1) 27 (.int .i64 x) (.int .i64 y) (.int .i64 z)
  Y : O3 V (mb + 1 + 1) 27 (.int .i64 p) (.int .i64 q) (.int .i64 r)
  A : O3 V (mb + 1 + 1 + 1) 27 (.int .i64 0) (.int .i64 0) (.int .i64 0)
  Z : O3 V (mb + 1 + 1 + 1 + 1) 57 (.bool false) (.bool false) (.bool false)
  X : O3 V bb 57 (.bool c1) (.bool c2) (.bool c3)
  N : O3 V kb 73 (.pointer (some ⟨mb + 1 + 1, 0, none⟩)) (.pointer (some ⟨mb + 1 + 1, 1, none⟩)) (.pointer (some ⟨mb + 1 + 1, 2, none⟩))
  B : Below w.heap.size w V
theorem SlSt.keep {w V : World} {mb bb kb : Nat} {W D H : Int} {mp : Option Addr} {mn mc : Nat} {sp : Option Addr} {sn sc : Nat} {p q r : Int} {x y z : Int} {c1 c2 c3 : Bool} (h : SlSt w (V) mb bb kb W D H mp mn mc sp sn sc p q r x y z c1 c2 c3) {V' : World} (hb : Below V.heap.size V V') : SlSt w (V') mb bb kb W D H mp mn mc sp sn sc p q r x y z c1 c2 c3 :=
  ⟨h.h0, h.h1, h.h2, h.O.keep hb, h.P.keep hb, h.Y.keep hb, h.A.keep hb, h.Z.keep hb, h.X.keep hb, h.N.keep hb, btrans h.B hb⟩
theorem SlSt.p0 {w V : World} {mb bb kb : Nat} {W D H : Int} {mp : Option Addr} {mn mc : Nat} {sp : Option Addr} {sn sc : Nat} {p q r : Int} {x y z : Int} {c1 c2 c3 : Bool} (h : SlSt w (V) mb bb kb W D H mp mn mc sp sn sc p q r x y z c1 c2 c3) (n : Int) : SlSt w (V.setCell ⟨mb + 1, 0, none⟩ (.int .i64 n)) mb bb kb W D H mp mn mc sp sn sc p q r n y z c1 c2 c3 := by
  obtain ⟨h0, h1, h2, hO, hP, hY, hA, hZ, hX, hN, hB⟩ := h
  exact ⟨h0, h1, h2, hO.other (by omega) _, hP.set0 _, hY.other (by omega) _, hA.other (by omega) _, hZ.other (by omega) _, hX.other (by omega) _, hN.other (by omega) _, hB.setCell (p := ⟨mb + 1, 0, none⟩) (show w.heap.size ≤ mb + 1 by omega) _⟩
theorem SlSt.p1 {w V : World} {mb bb kb : Nat} {W D H : Int} {mp : Option Addr} {mn mc : Nat} {sp : Option Addr} {sn sc : Nat} {p q r : Int} {x y z : Int} {c1 c2 c3 : Bool} (h : SlSt w (V) mb bb kb W D H mp mn mc sp sn sc p q r x y z c1 c2 c3) (n : Int) : SlSt w (V.setCell ⟨mb + 1, 1, none⟩ (.int .i64 n)) mb bb kb W D H mp mn mc sp sn sc p q r x n z c1 c2 c3 := by
  obtain ⟨h0, h1, h2, hO, hP, hY, hA, hZ, hX, hN, hB⟩ := h
  exact ⟨h0, h1, h2, hO.other (by omega) _, hP.set1 _, hY.other (by omega) _, hA.other (by omega) _, hZ.other (by omega) _, hX.other (by omega) _, hN.other (by omega) _, hB.setCell (p := ⟨mb + 1, 1, none⟩) (show w.heap.size ≤ mb + 1 by omega) _⟩
theorem SlSt.p2 {w V : World} {mb bb kb : Nat} {W D H : Int} {mp : Option Addr} {mn mc : Nat} {sp : Option Addr} {sn sc : Nat} {p q r : Int} {x y z : Int} {c1 c2 c3 : Bool} (h : SlSt w (V) mb bb kb W D H mp mn mc sp sn sc p q r x y z c1 c2 c3) (n : Int) : SlSt w (V.setCell ⟨mb + 1, 2, none⟩ (.int .i64 n)) mb bb kb W D H mp mn mc sp sn sc p q r x y n c1 c2 c3 := by
  obtain ⟨h0, h1, h2, hO, hP, hY, hA, hZ, hX, hN, hB⟩ := h
  exact ⟨h0, h1, h2, hO.other (by omega) _, hP.set2 _, hY.other (by omega) _, hA.other (by omega) _, hZ.other (by omega) _, hX.other (by omega) _, hN.other (by omega) _, hB.setCell (p := ⟨mb + 1, 2, none⟩) (show w.heap.size ≤ mb + 1 by omega) _⟩
theorem SlSt.x0 {w V : World} {mb bb kb : Nat} {W D H : Int} {mp : Option Addr} {mn mc : Nat} {sp : Option Addr} {sn sc : Nat} {p q r : Int} {x y z : Int} {c1 c2 c3 : Bool} (h : SlSt w (V) mb bb kb W D H mp mn mc sp sn sc p q r x y z c1 c2 c3) (d : Bool) : SlSt w (V.setCell ⟨bb, 0, none⟩ (.bool d)) mb bb kb W D H mp mn mc sp sn sc p q r x y z d c2 c3 := by
  obtain ⟨h0, h1, h2, hO, hP, hY, hA, hZ, hX, hN, hB⟩ := h
  exact ⟨h0, h1, h2, hO.other (by omega) _, hP.other (by omega) _, hY.other (by omega) _, hA.other (by omega) _, hZ.other (by omega) _, hX.set0 _, hN.other (by omega) _, hB.setCell (p := ⟨bb, 0, none⟩) (show w.heap.size ≤ bb by omega) _⟩
theorem SlSt.x1 {w V : World} {mb bb kb : Nat} {W D H : Int} {mp : Option Addr} {mn mc : Nat} {sp : Option Addr} {sn sc : Nat} {p q r : Int} {x y z : Int} {c1 c2 c3 : Bool} (h : SlSt w (V) mb bb kb W D H mp mn mc sp sn sc p q r x y z c1 c2 c3) (d : Bool) : SlSt w (V.setCell ⟨bb, 1, none⟩ (.bool d)) mb bb kb W D H mp mn mc sp sn sc p q r x y z c1 d c3 := by
  obtain ⟨h0, h1, h2, hO, hP, hY, hA, hZ, hX, hN, hB⟩ := h
  exact ⟨h0, h1, h2, hO.other (by omega) _, hP.other (by omega) _, hY.other (by omega) _, hA.other (by omega) _, hZ.other (by omega) _, hX.set1 _, hN.other (by omega) _, hB.setCell (p := ⟨bb, 1, none⟩) (show w.heap.size ≤ bb by omega) _⟩
theorem SlSt.x2 {w V : World} {mb bb kb : Nat} {W D H : Int} {mp : Option Addr} {mn mc : Nat} {sp : Option Addr} {sn sc : Nat} {p q r : Int} {x y z : Int} {c1 c2 c3 : Bool} (h : SlSt w (V) mb bb kb W D H mp mn mc sp sn sc p q r x y z c1 c2 c3) (d : Bool) : SlSt w (V.setCell ⟨bb, 2, none⟩ (.bool d)) mb bb kb W D H mp mn mc sp sn sc p q r x y z c1 c2 d := by
  obtain ⟨h0, h1, h2, hO, hP, hY, hA, hZ, hX, hN, hB⟩ := h
  exact ⟨h0, h1, h2, hO.other (by omega) _, hP.other (by omega) _, hY.other (by omega) _, hA.other (by omega) _, hZ.other (by omega) _, hX.set2 _, hN.other (by omega) _, hB.setCell (p := ⟨bb, 2, none⟩) (show w.heap.size ≤ bb by omega) _⟩
/-- How far it has come, behind so many axes. -/
inductive SlI (x y z x1 y1 z1 : Int) (b1 b2 b3 : Bool) : Nat → Int → Int → Int → Bool → Bool → Bool → Prop
  | s0 : SlI x y z x1 y1 z1 b1 b2 b3 0 x y z false false false
  | s1 : SlI x y z x1 y1 z1 b1 b2 b3 1 x1 y z b1 false false
  | s2 : SlI x y z x1 y1 z1 b1 b2 b3 2 x1 y1 z b1 b2 false
  | s3 : SlI x y z x1 y1 z1 b1 b2 b3 3 x1 y1 z1 b1 b2 b3
theorem idx3p (p0 p1 p2 : Value) : (∀ w, (Instr.index 73 (.agg #[p0, p1, p2]) (.int .i64 0)).run Try.prog w = .ok p0 w) ∧ (∀ w, (Instr.index 73 (.agg #[p0, p1, p2]) (.int .i64 1)).run Try.prog w = .ok p1 w) ∧ (∀ w, (Instr.index 73 (.agg #[p0, p1, p2]) (.int .i64 2)).run Try.prog w = .ok p2 w) :=
  ⟨fun _ => by kernel_rfl, fun _ => by kernel_rfl, fun _ => by kernel_rfl⟩

set_option maxHeartbeats 2000000 in
theorem traceSlide (W D H : Int) (mp : Option Addr) (mn mc : Nat) (mf : Nat → Bool) (sp : Option Addr) (sn sc : Nat) (R : Int → Int → Int → Bool) (hR : ∀ x y z, R x y z = true ↔ (mpOf W D H mn mf).Room x y z) (x y z a b c : Int) (ix : I64 x) (iy : I64 y) (iz : I64 z) (ia : I64 a) (ib : I64 b) (ic : I64 c) (x1 y1 z1 : Int) (b1 b2 b3 : Bool) (hs : Slid R x y z (fclamp a 32768) (fclamp b 32768) (fclamp c 32768) x1 y1 z1 b1 b2 b3) (w : World) (hm : Arg w mp mn mc fun i => .bool (mf i)) :
    Calls Try.prog 37 #[.agg #[.int .i64 W, .int .i64 D, .int .i64 H, .slice mp mn mc, .slice sp sn sc], .agg #[.int .i64 x, .int .i64 y, .int .i64 z], .agg #[.int .i64 a, .int .i64 b, .int .i64 c]] w fun e w' => e = .returned (.tuple #[.agg #[.int .i64 x1, .int .i64 y1, .int .i64 z1], .agg #[.bool b1, .bool b2, .bool b3]]) ∧ Below w.heap.size w w' := by
  have HCL := hid (fun V => fixVecClampP a b c 32768 ia ib ic ⟨by omega, by omega⟩ (by omega) V)
  have HFR := hid (fun x y z ix iy iz V hV => traceFree W D H mp mn mc mf sp sn sc R hR x y z ix iy iz V (hm.keep hV))
  have na := cl_near a; have nb := cl_near b; have nc := cl_near c
  obtain ⟨p, hp⟩ : ∃ p, fclamp a 32768 = p := ⟨_, rfl⟩
  obtain ⟨q, hq⟩ : ∃ p, fclamp b 32768 = p := ⟨_, rfl⟩
  obtain ⟨r, hr⟩ : ∃ p, fclamp c 32768 = p := ⟨_, rfl⟩
  rw [hp, hq, hr] at HCL hs
  rw [hp] at na; rw [hq] at nb; rw [hr] at nc
  clear hp hq hr hR hm
  have HS := hid hs
  clear hs
  have O0 : O5 (((((w.alloc (.cells #[.int .i64 W, .int .i64 D, .int .i64 H, .slice mp mn mc, .slice sp sn sc] 25)).alloc (.cells #[.int .i64 x, .int .i64 y, .int .i64 z] 27)).alloc (.cells #[.int .i64 a, .int .i64 b, .int .i64 c] 27)).alloc (.cells #[.int .i64 0, .int .i64 0, .int .i64 0] 27)).alloc (.cells #[.bool false, .bool false, .bool false] 57)) w.heap.size (.int .i64 W) (.int .i64 D) (.int .i64 H) (.slice mp mn mc) (.slice sp sn sc) := ((((O5.new _ _ _ _ _ _).alloc _).alloc _).alloc _).alloc _
  have P0 : O3 (((((w.alloc (.cells #[.int .i64 W, .int .i64 D, .int .i64 H, .slice mp mn mc, .slice sp sn sc] 25)).alloc (.cells #[.int .i64 x, .int .i64 y, .int .i64 z] 27)).alloc (.cells #[.int .i64 a, .int .i64 b, .int .i64 c] 27)).alloc (.cells #[.int .i64 0, .int .i64 0, .int .i64 0] 27)).alloc (.cells #[.bool false, .bool false, .bool false] 57)) (w.heap.size + 1) 27 (.int .i64 x) (.int .i64 y) (.int .i64 z) := (((O3.new' _ _ _ _ _ (by simp)).alloc _).alloc _).alloc _
  have Y0 : O3 (((((w.alloc (.cells #[.int .i64 W, .int .i64 D, .int .i64 H, .slice mp mn mc, .slice sp sn sc] 25)).alloc (.cells #[.int .i64 x, .int .i64 y, .int .i64 z] 27)).alloc (.cells #[.int .i64 a, .int .i64 b, .int .i64 c] 27)).alloc (.cells #[.int .i64 0, .int .i64 0, .int .i64 0] 27)).alloc (.cells #[.bool false, .bool false, .bool false] 57)) (w.heap.size + 1 + 1) 27 (.int .i64 a) (.int .i64 b) (.int .i64 c) := ((O3.new' _ _ _ _ _ (by simp)).alloc _).alloc _
  have A0 : O3 (((((w.alloc (.cells #[.int .i64 W, .int .i64 D, .int .i64 H, .slice mp mn mc, .slice sp sn sc] 25)).alloc (.cells #[.int .i64 x, .int .i64 y, .int .i64 z] 27)).alloc (.cells #[.int .i64 a, .int .i64 b, .int .i64 c] 27)).alloc (.cells #[.int .i64 0, .int .i64 0, .int .i64 0] 27)).alloc (.cells #[.bool false, .bool false, .bool false] 57)) (w.heap.size + 1 + 1 + 1) 27 (.int .i64 0) (.int .i64 0) (.int .i64 0) := (O3.new' _ _ _ _ _ (by simp)).alloc _
  have Z0 : O3 (((((w.alloc (.cells #[.int .i64 W, .int .i64 D, .int .i64 H, .slice mp mn mc, .slice sp sn sc] 25)).alloc (.cells #[.int .i64 x, .int .i64 y, .int .i64 z] 27)).alloc (.cells #[.int .i64 a, .int .i64 b, .int .i64 c] 27)).alloc (.cells #[.int .i64 0, .int .i64 0, .int .i64 0] 27)).alloc (.cells #[.bool false, .bool false, .bool false] 57)) (w.heap.size + 1 + 1 + 1 + 1) 57 (.bool false) (.bool false) (.bool false) := O3.new' _ _ _ _ _ (by simp)
  have B0 : Below w.heap.size w (((((w.alloc (.cells #[.int .i64 W, .int .i64 D, .int .i64 H, .slice mp mn mc, .slice sp sn sc] 25)).alloc (.cells #[.int .i64 x, .int .i64 y, .int .i64 z] 27)).alloc (.cells #[.int .i64 a, .int .i64 b, .int .i64 c] 27)).alloc (.cells #[.int .i64 0, .int .i64 0, .int .i64 0] 27)).alloc (.cells #[.bool false, .bool false, .bool false] 57)) := (((((Below.refl _ _).alloc (Nat.le_refl _) _).alloc (by simp) _).alloc (by simp; omega) _).alloc (by simp; omega) _).alloc (by simp; omega) _
  go_enter Try.func37, Try.ntmps37
  go_wp2_with fail
  refine (HCL.out _).mono ?_; rintro e V1 ⟨rfl, q1⟩
  replace O0 := O0.keep q1
  replace P0 := P0.keep q1
  replace Y0 := Y0.keep q1
  replace A0 := A0.keep q1
  replace Z0 := Z0.keep q1
  have HB := hid (B0.trans (q1.mono B0.size))
  clear q1 B0 HCL
  obtain ⟨g0, g1, g2⟩ := Y0.cells
  obtain ⟨f0, f1, f2⟩ := Y0.thaw
  obtain ⟨mb, hmb⟩ : ∃ b, w.heap.size = b := ⟨_, rfl⟩
  rw [hmb] at O0 P0 Y0 A0 Z0 g0 g1 g2 f0 f1 f2
  simp only [hmb]
  go_upto_region 2 with fail
  have hlt := Z0.lt
  replace O0 := O0.others (show mb ≠ mb + 1 + 1 by omega) (.int .i64 p) (.int .i64 q) (.int .i64 r)
  replace P0 := P0.others (show mb + 1 ≠ mb + 1 + 1 by omega) (.int .i64 p) (.int .i64 q) (.int .i64 r)
  replace Y0 := Y0.set (.int .i64 p) (.int .i64 q) (.int .i64 r)
  replace A0 := A0.others (show mb + 1 + 1 + 1 ≠ mb + 1 + 1 by omega) (.int .i64 p) (.int .i64 q) (.int .i64 r)
  replace Z0 := Z0.others (show mb + 1 + 1 + 1 + 1 ≠ mb + 1 + 1 by omega) (.int .i64 p) (.int .i64 q) (.int .i64 r)
  replace HB := hid (below_set3 HB.out (show w.heap.size ≤ mb + 1 + 1 by omega) (.int .i64 p) (.int .i64 q) (.int .i64 r))
  clear g0 g1 g2 f0 f1 f2
  generalize ((V1.setCell ⟨mb + 1 + 1, 0, none⟩ (.int .i64 p)).setCell ⟨mb + 1 + 1, 1, none⟩ (.int .i64 q)).setCell ⟨mb + 1 + 1, 2, none⟩ (.int .i64 r) = U at *
  have HBU := HB.out
  have hwm : w.heap.size ≤ mb := by omega
  replace hlt := Z0.lt
  replace O0 := O0.alloc (.cells #[.bool false, .bool false, .bool false] 57)
  replace P0 := P0.alloc (.cells #[.bool false, .bool false, .bool false] 57)
  replace Y0 := Y0.alloc (.cells #[.bool false, .bool false, .bool false] 57)
  replace A0 := A0.alloc (.cells #[.bool false, .bool false, .bool false] 57)
  replace Z0 := Z0.alloc (.cells #[.bool false, .bool false, .bool false] 57)
  have X0 := O3.new U 57 (.bool false) (.bool false) (.bool false)
  replace HB := hid (HBU.alloc (by omega) (.cells #[.bool false, .bool false, .bool false] 57))
  clear HBU
  obtain ⟨bb, hbb⟩ : ∃ b, U.heap.size = b := ⟨_, rfl⟩
  rw [hbb] at X0 hlt
  go_upto_region 3 with fail
  try simp only [hbb]
  generalize U.alloc (.cells #[.bool false, .bool false, .bool false] 57) = U1 at *
  go_wp2_with fail
  refine (traceAxes _ _).mono ?_; rintro e V2 ⟨rfl, q1⟩
  replace O0 := (O0.keep q1).alloc (.cells #[.pointer (some ⟨mb + 1 + 1, 0, none⟩), .pointer (some ⟨mb + 1 + 1, 1, none⟩), .pointer (some ⟨mb + 1 + 1, 2, none⟩)] 73)
  replace P0 := (P0.keep q1).alloc (.cells #[.pointer (some ⟨mb + 1 + 1, 0, none⟩), .pointer (some ⟨mb + 1 + 1, 1, none⟩), .pointer (some ⟨mb + 1 + 1, 2, none⟩)] 73)
  replace Y0 := (Y0.keep q1).alloc (.cells #[.pointer (some ⟨mb + 1 + 1, 0, none⟩), .pointer (some ⟨mb + 1 + 1, 1, none⟩), .pointer (some ⟨mb + 1 + 1, 2, none⟩)] 73)
  replace A0 := (A0.keep q1).alloc (.cells #[.pointer (some ⟨mb + 1 + 1, 0, none⟩), .pointer (some ⟨mb + 1 + 1, 1, none⟩), .pointer (some ⟨mb + 1 + 1, 2, none⟩)] 73)
  replace Z0 := (Z0.keep q1).alloc (.cells #[.pointer (some ⟨mb + 1 + 1, 0, none⟩), .pointer (some ⟨mb + 1 + 1, 1, none⟩), .pointer (some ⟨mb + 1 + 1, 2, none⟩)] 73)
  replace X0 := X0.keep q1
  have hbw := X0.lt
  replace X0 := X0.alloc (.cells #[.pointer (some ⟨mb + 1 + 1, 0, none⟩), .pointer (some ⟨mb + 1 + 1, 1, none⟩), .pointer (some ⟨mb + 1 + 1, 2, none⟩)] 73)
  have N0 := O3.new V2 73 (.pointer (some ⟨mb + 1 + 1, 0, none⟩)) (.pointer (some ⟨mb + 1 + 1, 1, none⟩)) (.pointer (some ⟨mb + 1 + 1, 2, none⟩))
  replace HB := hid ((btrans HB.out q1).alloc (by omega) (.cells #[.pointer (some ⟨mb + 1 + 1, 0, none⟩), .pointer (some ⟨mb + 1 + 1, 1, none⟩), .pointer (some ⟨mb + 1 + 1, 2, none⟩)] 73))
  clear q1
  obtain ⟨kb, hkb⟩ : ∃ b, V2.heap.size = b := ⟨_, rfl⟩
  rw [hkb] at N0 hbw
  go_upto_region 4 with fail
  generalize V2.alloc (.cells #[.pointer (some ⟨mb + 1 + 1, 0, none⟩), .pointer (some ⟨mb + 1 + 1, 1, none⟩), .pointer (some ⟨mb + 1 + 1, 2, none⟩)] 73) = U2 at *
  have hST : SlSt w (U2) mb bb kb W D H mp mn mc sp sn sc p q r x y z false false false := { h0 := hwm, h1 := hlt, h2 := hbw, O := O0, P := P0, Y := Y0, A := A0, Z := Z0, X := X0, N := N0, B := HB.out }
  clear O0 P0 Y0 A0 Z0 X0 N0 HB hwm
  go_wp2_with fail
  refine (traceAxes _ _).mono ?_; rintro e V3 ⟨rfl, q1⟩
  replace hST := hST.keep q1
  clear q1
  obtain ⟨ei0, ei1, ei2⟩ := idx3p (.pointer (some ⟨mb + 1, 0, none⟩)) (.pointer (some ⟨mb + 1, 1, none⟩)) (.pointer (some ⟨mb + 1, 2, none⟩))
  go_wp2
  go_loopw [18] (fun v wr => ∃ (i : Nat) (px py pz : Int) (c1 c2 c3 : Bool) (V : World), v = .int .i64 i ∧ wr = V ∧ SlI x y z x1 y1 z1 b1 b2 b3 i px py pz c1 c2 c3 ∧ SlSt w (V) mb bb kb W D H mp mn mc sp sn sc p q r px py pz c1 c2 c3) (fun v _ => 3 - (intOf v).toNat)
  case atStart => exact ⟨0, _, _, _, _, _, _, _, rfl, rfl, .s0, hST⟩
  case round =>
    obtain ⟨i, px, py, pz, c1, c2, c3, V, rfl, eV, hI, hS⟩ := hrel
    subst eV
    clear hST
    have jp : I64 p := ⟨by omega, by omega⟩; have jq : I64 q := ⟨by omega, by omega⟩; have jr : I64 r := ⟨by omega, by omega⟩
    obtain ⟨jx, jy, jz⟩ := HS.out.i64 ix iy iz
    cases hI with
    | s0 =>
      obtain ⟨p0, p1, p2⟩ := hS.P.cells
      obtain ⟨y0, y1', y2⟩ := hS.Y.cells
      obtain ⟨k0, k1, k2⟩ := hS.N.cells
      go_upto_region 7 with fail
      go_region
      replace hS := hS.keep (Below.refl _ _).drew
      clear p0 p1 p2 y0 y1' y2 k0 k1 k2
      generalize wr.drew = V4 at *
      go_wp2_with fail
      refine (fixAdd x p ix jp _).mono ?_; rintro e V5 ⟨rfl, hv⟩
      replace hv := hv.symm; subst hv
      obtain ⟨t0, t1, t2⟩ := hS.P.thaw
      obtain ⟨p0, p1, p2⟩ := hS.P.cells
      go_upto_region 9 with fail
      replace hS := hS.p0 (sat (x + p))
      clear t0 t1 t2 p0 p1 p2
      generalize V4.setCell ⟨mb + 1, 0, none⟩ (.int .i64 (sat (x + p))) = V6 at *
      obtain ⟨p0, p1, p2⟩ := hS.P.cells
      obtain ⟨m0, m1, m2, m3, m4⟩ := hS.O.cells
      go_wp2_with fail
      refine (HFR.out _ _ _ (sat_i64 _) iy iz _ hS.B).mono ?_; rintro e V7 ⟨rfl, q1⟩
      replace hS := hS.keep q1
      clear q1 p0 p1 p2 m0 m1 m2 m3 m4
      have e1 := HS.out.ex
      have e2 := HS.out.d1
      obtain ⟨f, hf⟩ : ∃ f, R (sat (x + p)) y z = f := ⟨_, rfl⟩
      rw [hf] at e1 e2 ⊢
      clear hf
      cases f with
      | true =>
        replace e1 : x1 = sat (x + p) := e1
        replace e2 : b1 = false := e2
        rw [← e1] at hS
        clear e1
        go_wp2
        exact ⟨⟨1, _, _, _, _, _, _, _, rfl, rfl, .s1, by rw [e2]; exact hS⟩, by simp [intOf]⟩
      | false =>
        replace e1 : x1 = x := e1
        obtain ⟨p0, p1, p2⟩ := hS.P.cells
        obtain ⟨t0, t1, t2⟩ := hS.P.thaw
        obtain ⟨xc0, xc1, xc2⟩ := hS.X.cells
        obtain ⟨u0, u1, u2⟩ := hS.X.thaw
        replace e2 : b1 = (p != 0) := e2.trans (by unfold bl; by_cases hd : p = 0 <;> simp [hd])
        replace hS := (hS.p0 x).x0 (p != 0)
        rw [← e2] at hS
        have hS' := hid hS
        have E1 := hid e1; have E2 := hid e2
        clear hS e1 e2
        go_wp2
        refine ⟨⟨1, _, _, _, _, _, _, _, rfl, rfl, .s1, ?_⟩, by simp [intOf]⟩
        have hS := hS'.out
        rw [E2.out] at hS ⊢
        rw [E1.out]
        exact hS
    | s1 =>
      obtain ⟨p0, p1, p2⟩ := hS.P.cells
      obtain ⟨y0, y1', y2⟩ := hS.Y.cells
      obtain ⟨k0, k1, k2⟩ := hS.N.cells
      go_upto_region 7 with fail
      go_region
      replace hS := hS.keep (Below.refl _ _).drew
      clear p0 p1 p2 y0 y1' y2 k0 k1 k2
      generalize wr.drew = V4 at *
      go_wp2_with fail
      refine (fixAdd y q iy jq _).mono ?_; rintro e V5 ⟨rfl, hv⟩
      replace hv := hv.symm; subst hv
      obtain ⟨t0, t1, t2⟩ := hS.P.thaw
      obtain ⟨p0, p1, p2⟩ := hS.P.cells
      go_upto_region 9 with fail
      replace hS := hS.p1 (sat (y + q))
      clear t0 t1 t2 p0 p1 p2
      generalize V4.setCell ⟨mb + 1, 1, none⟩ (.int .i64 (sat (y + q))) = V6 at *
      obtain ⟨p0, p1, p2⟩ := hS.P.cells
      obtain ⟨m0, m1, m2, m3, m4⟩ := hS.O.cells
      go_wp2_with fail
      refine (HFR.out _ _ _ jx (sat_i64 _) iz _ hS.B).mono ?_; rintro e V7 ⟨rfl, q1⟩
      replace hS := hS.keep q1
      clear q1 p0 p1 p2 m0 m1 m2 m3 m4
      have e1 := HS.out.ey
      have e2 := HS.out.d2
      obtain ⟨f, hf⟩ : ∃ f, R x1 (sat (y + q)) z = f := ⟨_, rfl⟩
      rw [hf] at e1 e2 ⊢
      clear hf
      cases f with
      | true =>
        replace e1 : y1 = sat (y + q) := e1
        replace e2 : b2 = false := e2
        rw [← e1] at hS
        clear e1
        go_wp2
        exact ⟨⟨2, _, _, _, _, _, _, _, rfl, rfl, .s2, by rw [e2]; exact hS⟩, by simp [intOf]⟩
      | false =>
        replace e1 : y1 = y := e1
        obtain ⟨p0, p1, p2⟩ := hS.P.cells
        obtain ⟨t0, t1, t2⟩ := hS.P.thaw
        obtain ⟨xc0, xc1, xc2⟩ := hS.X.cells
        obtain ⟨u0, u1, u2⟩ := hS.X.thaw
        replace e2 : b2 = (q != 0) := e2.trans (by unfold bl; by_cases hd : q = 0 <;> simp [hd])
        replace hS := (hS.p1 y).x1 (q != 0)
        rw [← e2] at hS
        have hS' := hid hS
        have E1 := hid e1; have E2 := hid e2
        clear hS e1 e2
        go_wp2
        refine ⟨⟨2, _, _, _, _, _, _, _, rfl, rfl, .s2, ?_⟩, by simp [intOf]⟩
        have hS := hS'.out
        rw [E2.out] at hS ⊢
        rw [E1.out]
        exact hS
    | s2 =>
      obtain ⟨p0, p1, p2⟩ := hS.P.cells
      obtain ⟨y0, y1', y2⟩ := hS.Y.cells
      obtain ⟨k0, k1, k2⟩ := hS.N.cells
      go_upto_region 7 with fail
      go_region
      replace hS := hS.keep (Below.refl _ _).drew
      clear p0 p1 p2 y0 y1' y2 k0 k1 k2
      generalize wr.drew = V4 at *
      go_wp2_with fail
      refine (fixAdd z r iz jr _).mono ?_; rintro e V5 ⟨rfl, hv⟩
      replace hv := hv.symm; subst hv
      obtain ⟨t0, t1, t2⟩ := hS.P.thaw
      obtain ⟨p0, p1, p2⟩ := hS.P.cells
      go_upto_region 9 with fail
      replace hS := hS.p2 (sat (z + r))
      clear t0 t1 t2 p0 p1 p2
      generalize V4.setCell ⟨mb + 1, 2, none⟩ (.int .i64 (sat (z + r))) = V6 at *
      obtain ⟨p0, p1, p2⟩ := hS.P.cells
      obtain ⟨m0, m1, m2, m3, m4⟩ := hS.O.cells
      go_wp2_with fail
      refine (HFR.out _ _ _ jx jy (sat_i64 _) _ hS.B).mono ?_; rintro e V7 ⟨rfl, q1⟩
      replace hS := hS.keep q1
      clear q1 p0 p1 p2 m0 m1 m2 m3 m4
      have e1 := HS.out.ez
      have e2 := HS.out.d3
      obtain ⟨f, hf⟩ : ∃ f, R x1 y1 (sat (z + r)) = f := ⟨_, rfl⟩
      rw [hf] at e1 e2 ⊢
      clear hf
      cases f with
      | true =>
        replace e1 : z1 = sat (z + r) := e1
        replace e2 : b3 = false := e2
        rw [← e1] at hS
        clear e1
        go_wp2
        exact ⟨⟨3, _, _, _, _, _, _, _, rfl, rfl, .s3, by rw [e2]; exact hS⟩, by simp [intOf]⟩
      | false =>
        replace e1 : z1 = z := e1
        obtain ⟨p0, p1, p2⟩ := hS.P.cells
        obtain ⟨t0, t1, t2⟩ := hS.P.thaw
        obtain ⟨xc0, xc1, xc2⟩ := hS.X.cells
        obtain ⟨u0, u1, u2⟩ := hS.X.thaw
        replace e2 : b3 = (r != 0) := e2.trans (by unfold bl; by_cases hd : r = 0 <;> simp [hd])
        replace hS := (hS.p2 z).x2 (r != 0)
        rw [← e2] at hS
        have hS' := hid hS
        have E1 := hid e1; have E2 := hid e2
        clear hS e1 e2
        go_wp2
        refine ⟨⟨3, _, _, _, _, _, _, _, rfl, rfl, .s3, ?_⟩, by simp [intOf]⟩
        have hS := hS'.out
        rw [E2.out] at hS ⊢
        rw [E1.out]
        exact hS
    | s3 =>
      obtain ⟨p0, p1, p2⟩ := hS.P.cells
      obtain ⟨xc0, xc1, xc2⟩ := hS.X.cells
      obtain ⟨t0, t1, t2⟩ := hS.A.thaw
      obtain ⟨u0, u1, u2⟩ := hS.Z.thaw
      obtain ⟨v0, v1, v2⟩ := hS.A.cells
      obtain ⟨z0, z1', z2⟩ := hS.Z.cells
      go_upto_region 13 with fail
      go_region
      have hA := ((hS.A.set (.int .i64 x1) (.int .i64 y1) (.int .i64 z1)).others (show mb + 1 + 1 + 1 ≠ mb + 1 + 1 + 1 + 1 by omega) (.bool b1) (.bool b2) (.bool b3)).keep (Below.refl _ _).drew
      have hZ := ((hS.Z.others (show mb + 1 + 1 + 1 + 1 ≠ mb + 1 + 1 + 1 by omega) (.int .i64 x1) (.int .i64 y1) (.int .i64 z1)).set (.bool b1) (.bool b2) (.bool b3)).keep (Below.refl _ _).drew
      have h00 := hS.h0
      have hB := (below_set3 (below_set3 hS.B (show w.heap.size ≤ mb + 1 + 1 + 1 by omega) (.int .i64 x1) (.int .i64 y1) (.int .i64 z1)) (show w.heap.size ≤ mb + 1 + 1 + 1 + 1 by omega) (.bool b1) (.bool b2) (.bool b3)).drew
      clear p0 p1 p2 xc0 xc1 xc2 t0 t1 t2 u0 u1 u2 v0 v1 v2 z0 z1' z2 hS
      generalize ((((((wr.setCell ⟨mb + 1 + 1 + 1, 0, none⟩ (.int .i64 x1)).setCell ⟨mb + 1 + 1 + 1, 1, none⟩ (.int .i64 y1)).setCell ⟨mb + 1 + 1 + 1, 2, none⟩ (.int .i64 z1)).setCell ⟨mb + 1 + 1 + 1 + 1, 0, none⟩ (.bool b1)).setCell ⟨mb + 1 + 1 + 1 + 1, 1, none⟩ (.bool b2)).setCell ⟨mb + 1 + 1 + 1 + 1, 2, none⟩ (.bool b3)).drew = V9 at *
      obtain ⟨v0, v1, v2⟩ := hA.cells
      obtain ⟨z0, z1', z2⟩ := hZ.cells
      go_wp2
      refine bodyPost_ret (v := .tuple #[.agg #[.int .i64 x1, .int .i64 y1, .int .i64 z1], .agg #[.bool b1, .bool b2, .bool b3]]) ?_ rfl ⟨rfl, hB⟩
      simp [results, Try.results37, go_sem, v0, v1, v2, z0, z1', z2]
end Go.Proofs.Ytjjdclckkhddbaa
