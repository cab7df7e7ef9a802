/- Layer 10 (trace): the contract of the document's own Slide. -/
import Derived.Test.YtjjdclckkhddbaaTrC
namespace Go.Proofs.Ytjjdclckkhddbaa
open Go.RowKit
set_option linter.unusedVariables false
set_option linter.unusedSimpArgs false
attribute [local go_sem ↓] Go.wp_at_zero Go.wp_at_succ

/-- How its boxes lie. -/
structure SlRs (w V : World) (mb bb : Nat) (W D H : Int) (mp : Option Addr) (mn mc : Nat) (sp : Option Addr) (sn sc : Nat) (p q r : Int) (x y z : Int) (c1 c2 c3 : Bool) : Prop where
  h0 : w.heap.size ≤ mb
  h1 : mb + 1 + 1 + 1 + 1 < bb
  O : O5 V mb (.int .i64 W) (.int .i64 D) (.int .i64 H) (.slice mp mn mc) (.slice sp sn sc)
  P : O3 V (mb + 1) 27 (.int .i64 x) (.int .i64 y) (.int .i64 z)
  Y : O3 V (mb + 1 + 1) 27 (.int .i64 p) (.int .i64 q) (.int .i64 r)
  A : O3 V (mb + 1 + 1 + 1) 27 (.int .i64 0) (.int .i64 0) (.int .i64 0)
  Z : O3 V (mb + 1 + 1 + 1 + 1) 57 (.bool false) (.bool false) (.bool false)
  X : O3 V bb 57 (.bool c1) (.bool c2) (.bool c3)
  B : Below w.heap.size w V
theorem SlRs.keep {w V : World} {mb bb : Nat} {W D H : Int} {mp : Option Addr} {mn mc : Nat} {sp : Option Addr} {sn sc : Nat} {p q r : Int} {x y z : Int} {c1 c2 c3 : Bool} (h : SlRs w (V) mb bb W D H mp mn mc sp sn sc p q r x y z c1 c2 c3) {V' : World} (hb : Below V.heap.size V V') : SlRs w (V') mb bb W D H mp mn mc sp sn sc p q r x y z c1 c2 c3 :=
  ⟨h.h0, h.h1, h.O.keep hb, h.P.keep hb, h.Y.keep hb, h.A.keep hb, h.Z.keep hb, h.X.keep hb, btrans h.B hb⟩
theorem SlRs.oth {w V : World} {mb bb : Nat} {W D H : Int} {mp : Option Addr} {mn mc : Nat} {sp : Option Addr} {sn sc : Nat} {p q r : Int} {x y z : Int} {c1 c2 c3 : Bool} (h : SlRs w (V) mb bb W D H mp mn mc sp sn sc p q r x y z c1 c2 c3) {tb o : Nat} (ht : bb < tb) (u : Value) : SlRs w (V.setCell ⟨tb, o, none⟩ u) mb bb W D H mp mn mc sp sn sc p q r x y z c1 c2 c3 := by
  obtain ⟨h0, h1, hO, hP, hY, hA, hZ, hX, hB⟩ := h
  exact ⟨h0, h1, hO.other (by omega) _, hP.other (by omega) _, hY.other (by omega) _, hA.other (by omega) _, hZ.other (by omega) _, hX.other (by omega) _, hB.setCell (p := ⟨tb, o, none⟩) (show w.heap.size ≤ tb by omega) _⟩
theorem SlRs.pos {w V : World} {mb bb : Nat} {W D H : Int} {mp : Option Addr} {mn mc : Nat} {sp : Option Addr} {sn sc : Nat} {p q r : Int} {x y z : Int} {c1 c2 c3 : Bool} (h : SlRs w (V) mb bb W D H mp mn mc sp sn sc p q r x y z c1 c2 c3) (k l m : Int) : SlRs w (((V.setCell ⟨mb + 1, 0, none⟩ (.int .i64 k)).setCell ⟨mb + 1, 1, none⟩ (.int .i64 l)).setCell ⟨mb + 1, 2, none⟩ (.int .i64 m)) mb bb W D H mp mn mc sp sn sc p q r k l m c1 c2 c3 := by
  obtain ⟨h0, h1, hO, hP, hY, hA, hZ, hX, hB⟩ := h
  exact ⟨h0, h1, hO.others (by omega) _ _ _, hP.set _ _ _, hY.others (by omega) _ _ _, hA.others (by omega) _ _ _, hZ.others (by omega) _ _ _, hX.others (by omega) _ _ _, below_set3 hB (show w.heap.size ≤ mb + 1 by omega) _ _ _⟩
theorem SlRs.x0 {w V : World} {mb bb : Nat} {W D H : Int} {mp : Option Addr} {mn mc : Nat} {sp : Option Addr} {sn sc : Nat} {p q r : Int} {x y z : Int} {c1 c2 c3 : Bool} (h : SlRs w (V) mb bb W D H mp mn mc sp sn sc p q r x y z c1 c2 c3) (d : Bool) : SlRs w (V.setCell ⟨bb, 0, none⟩ (.bool d)) mb bb W D H mp mn mc sp sn sc p q r x y z d c2 c3 := by
  obtain ⟨h0, h1, hO, hP, hY, hA, hZ, hX, hB⟩ := h
  exact ⟨h0, h1, hO.other (by omega) _, hP.other (by omega) _, hY.other (by omega) _, hA.other (by omega) _, hZ.other (by omega) _, hX.set0 _, hB.setCell (p := ⟨bb, 0, none⟩) (show w.heap.size ≤ bb by omega) _⟩
theorem SlRs.x1 {w V : World} {mb bb : Nat} {W D H : Int} {mp : Option Addr} {mn mc : Nat} {sp : Option Addr} {sn sc : Nat} {p q r : Int} {x y z : Int} {c1 c2 c3 : Bool} (h : SlRs w (V) mb bb W D H mp mn mc sp sn sc p q r x y z c1 c2 c3) (d : Bool) : SlRs w (V.setCell ⟨bb, 1, none⟩ (.bool d)) mb bb W D H mp mn mc sp sn sc p q r x y z c1 d c3 := by
  obtain ⟨h0, h1, hO, hP, hY, hA, hZ, hX, hB⟩ := h
  exact ⟨h0, h1, hO.other (by omega) _, hP.other (by omega) _, hY.other (by omega) _, hA.other (by omega) _, hZ.other (by omega) _, hX.set1 _, hB.setCell (p := ⟨bb, 1, none⟩) (show w.heap.size ≤ bb by omega) _⟩
theorem SlRs.x2 {w V : World} {mb bb : Nat} {W D H : Int} {mp : Option Addr} {mn mc : Nat} {sp : Option Addr} {sn sc : Nat} {p q r : Int} {x y z : Int} {c1 c2 c3 : Bool} (h : SlRs w (V) mb bb W D H mp mn mc sp sn sc p q r x y z c1 c2 c3) (d : Bool) : SlRs w (V.setCell ⟨bb, 2, none⟩ (.bool d)) mb bb W D H mp mn mc sp sn sc p q r x y z c1 c2 d := by
  obtain ⟨h0, h1, hO, hP, hY, hA, hZ, hX, hB⟩ := h
  exact ⟨h0, h1, hO.other (by omega) _, hP.other (by omega) _, hY.other (by omega) _, hA.other (by omega) _, hZ.other (by omega) _, hX.set2 _, hB.setCell (p := ⟨bb, 2, none⟩) (show w.heap.size ≤ bb by omega) _⟩
set_option maxHeartbeats 2000000 in
theorem refSlide (W D H : Int) (mp : Option Addr) (mn mc : Nat) (mf : Nat → Bool) (sp : Option Addr) (sn sc : Nat) (R : Int → Int → Int → Bool) (hR : ∀ x y z, R x y z = true ↔ (mpOf W D H mn mf).Room x y z) (x y z a b c : Int) (ix : I64 x) (iy : I64 y) (iz : I64 z) (ia : I64 a) (ib : I64 b) (ic : I64 c) (x1 y1 z1 : Int) (b1 b2 b3 : Bool) (hs : Slid R x y z (fclamp a 32768) (fclamp b 32768) (fclamp c 32768) x1 y1 z1 b1 b2 b3) (w : World) (hm : Arg w mp mn mc fun i => .bool (mf i)) :
    Calls Try.prog 29 #[.agg #[.int .i64 W, .int .i64 D, .int .i64 H, .slice mp mn mc, .slice sp sn sc], .agg #[.int .i64 x, .int .i64 y, .int .i64 z], .agg #[.int .i64 a, .int .i64 b, .int .i64 c]] w fun e w' => e = .returned (.tuple #[.agg #[.int .i64 x1, .int .i64 y1, .int .i64 z1], .agg #[.bool b1, .bool b2, .bool b3]]) ∧ Below w.heap.size w w' := by
  have HCL := hid (fun V => refClampP a b c 32768 ia ib ic ⟨by omega, by omega⟩ (by omega) V)
  have HFR := hid (fun x y z ix iy iz V hV => refFree W D H mp mn mc mf sp sn sc R hR x y z ix iy iz V (hm.keep hV))
  have na := cl_near a; have nb := cl_near b; have nc := cl_near c
  obtain ⟨p, hp⟩ : ∃ p, fclamp a 32768 = p := ⟨_, rfl⟩
  obtain ⟨q, hq⟩ : ∃ p, fclamp b 32768 = p := ⟨_, rfl⟩
  obtain ⟨r, hr⟩ : ∃ p, fclamp c 32768 = p := ⟨_, rfl⟩
  rw [hp, hq, hr] at HCL hs
  rw [hp] at na; rw [hq] at nb; rw [hr] at nc
  clear hp hq hr hR hm
  have HS := hid hs
  clear hs
  have O0 : O5 (((((w.alloc (.cells #[.int .i64 W, .int .i64 D, .int .i64 H, .slice mp mn mc, .slice sp sn sc] 25)).alloc (.cells #[.int .i64 x, .int .i64 y, .int .i64 z] 27)).alloc (.cells #[.int .i64 a, .int .i64 b, .int .i64 c] 27)).alloc (.cells #[.int .i64 0, .int .i64 0, .int .i64 0] 27)).alloc (.cells #[.bool false, .bool false, .bool false] 57)) w.heap.size (.int .i64 W) (.int .i64 D) (.int .i64 H) (.slice mp mn mc) (.slice sp sn sc) := ((((O5.new _ _ _ _ _ _).alloc _).alloc _).alloc _).alloc _
  have P0 : O3 (((((w.alloc (.cells #[.int .i64 W, .int .i64 D, .int .i64 H, .slice mp mn mc, .slice sp sn sc] 25)).alloc (.cells #[.int .i64 x, .int .i64 y, .int .i64 z] 27)).alloc (.cells #[.int .i64 a, .int .i64 b, .int .i64 c] 27)).alloc (.cells #[.int .i64 0, .int .i64 0, .int .i64 0] 27)).alloc (.cells #[.bool false, .bool false, .bool false] 57)) (w.heap.size + 1) 27 (.int .i64 x) (.int .i64 y) (.int .i64 z) := (((O3.new' _ _ _ _ _ (by simp)).alloc _).alloc _).alloc _
  have Y0 : O3 (((((w.alloc (.cells #[.int .i64 W, .int .i64 D, .int .i64 H, .slice mp mn mc, .slice sp sn sc] 25)).alloc (.cells #[.int .i64 x, .int .i64 y, .int .i64 z] 27)).alloc (.cells #[.int .i64 a, .int .i64 b, .int .i64 c] 27)).alloc (.cells #[.int .i64 0, .int .i64 0, .int .i64 0] 27)).alloc (.cells #[.bool false, .bool false, .bool false] 57)) (w.heap.size + 1 + 1) 27 (.int .i64 a) (.int .i64 b) (.int .i64 c) := ((O3.new' _ _ _ _ _ (by simp)).alloc _).alloc _
  have A0 : O3 (((((w.alloc (.cells #[.int .i64 W, .int .i64 D, .int .i64 H, .slice mp mn mc, .slice sp sn sc] 25)).alloc (.cells #[.int .i64 x, .int .i64 y, .int .i64 z] 27)).alloc (.cells #[.int .i64 a, .int .i64 b, .int .i64 c] 27)).alloc (.cells #[.int .i64 0, .int .i64 0, .int .i64 0] 27)).alloc (.cells #[.bool false, .bool false, .bool false] 57)) (w.heap.size + 1 + 1 + 1) 27 (.int .i64 0) (.int .i64 0) (.int .i64 0) := (O3.new' _ _ _ _ _ (by simp)).alloc _
  have Z0 : O3 (((((w.alloc (.cells #[.int .i64 W, .int .i64 D, .int .i64 H, .slice mp mn mc, .slice sp sn sc] 25)).alloc (.cells #[.int .i64 x, .int .i64 y, .int .i64 z] 27)).alloc (.cells #[.int .i64 a, .int .i64 b, .int .i64 c] 27)).alloc (.cells #[.int .i64 0, .int .i64 0, .int .i64 0] 27)).alloc (.cells #[.bool false, .bool false, .bool false] 57)) (w.heap.size + 1 + 1 + 1 + 1) 57 (.bool false) (.bool false) (.bool false) := O3.new' _ _ _ _ _ (by simp)
  have B0 : Below w.heap.size w (((((w.alloc (.cells #[.int .i64 W, .int .i64 D, .int .i64 H, .slice mp mn mc, .slice sp sn sc] 25)).alloc (.cells #[.int .i64 x, .int .i64 y, .int .i64 z] 27)).alloc (.cells #[.int .i64 a, .int .i64 b, .int .i64 c] 27)).alloc (.cells #[.int .i64 0, .int .i64 0, .int .i64 0] 27)).alloc (.cells #[.bool false, .bool false, .bool false] 57)) := (((((Below.refl _ _).alloc (Nat.le_refl _) _).alloc (by simp) _).alloc (by simp; omega) _).alloc (by simp; omega) _).alloc (by simp; omega) _
  go_enter Try.func29, Try.ntmps29
  go_wp2_with fail
  refine (HCL.out _).mono ?_; rintro e V1 ⟨rfl, q1⟩
  replace O0 := O0.keep q1
  replace P0 := P0.keep q1
  replace Y0 := Y0.keep q1
  replace A0 := A0.keep q1
  replace Z0 := Z0.keep q1
  have HB := hid (B0.trans (q1.mono B0.size))
  clear q1 B0 HCL
  obtain ⟨g0, g1, g2⟩ := Y0.cells
  obtain ⟨f0, f1, f2⟩ := Y0.thaw
  obtain ⟨mb, hmb⟩ : ∃ b, w.heap.size = b := ⟨_, rfl⟩
  rw [hmb] at O0 P0 Y0 A0 Z0 g0 g1 g2 f0 f1 f2
  simp only [hmb]
  go_upto_region 2 with fail
  have hlt := Z0.lt
  replace O0 := O0.others (show mb ≠ mb + 1 + 1 by omega) (.int .i64 p) (.int .i64 q) (.int .i64 r)
  replace P0 := P0.others (show mb + 1 ≠ mb + 1 + 1 by omega) (.int .i64 p) (.int .i64 q) (.int .i64 r)
  replace Y0 := Y0.set (.int .i64 p) (.int .i64 q) (.int .i64 r)
  replace A0 := A0.others (show mb + 1 + 1 + 1 ≠ mb + 1 + 1 by omega) (.int .i64 p) (.int .i64 q) (.int .i64 r)
  replace Z0 := Z0.others (show mb + 1 + 1 + 1 + 1 ≠ mb + 1 + 1 by omega) (.int .i64 p) (.int .i64 q) (.int .i64 r)
  replace HB := hid (below_set3 HB.out (show w.heap.size ≤ mb + 1 + 1 by omega) (.int .i64 p) (.int .i64 q) (.int .i64 r))
  clear g0 g1 g2 f0 f1 f2
  generalize ((V1.setCell ⟨mb + 1 + 1, 0, none⟩ (.int .i64 p)).setCell ⟨mb + 1 + 1, 1, none⟩ (.int .i64 q)).setCell ⟨mb + 1 + 1, 2, none⟩ (.int .i64 r) = U at *
  have HBU := HB.out
  have hwm : w.heap.size ≤ mb := by omega
  replace hlt := Z0.lt
  replace O0 := O0.alloc (.cells #[.bool false, .bool false, .bool false] 57)
  replace P0 := P0.alloc (.cells #[.bool false, .bool false, .bool false] 57)
  replace Y0 := Y0.alloc (.cells #[.bool false, .bool false, .bool false] 57)
  replace A0 := A0.alloc (.cells #[.bool false, .bool false, .bool false] 57)
  replace Z0 := Z0.alloc (.cells #[.bool false, .bool false, .bool false] 57)
  have X0 := O3.new U 57 (.bool false) (.bool false) (.bool false)
  replace HB := hid (HBU.alloc (by omega) (.cells #[.bool false, .bool false, .bool false] 57))
  clear HBU
  obtain ⟨bb, hbb⟩ : ∃ b, U.heap.size = b := ⟨_, rfl⟩
  rw [hbb] at X0 hlt
  go_upto_region 3 with fail
  try simp only [hbb]
  generalize U.alloc (.cells #[.bool false, .bool false, .bool false] 57) = U1 at *
  have hS : SlRs w (U1) mb bb W D H mp mn mc sp sn sc p q r x y z false false false := { h0 := hwm, h1 := hlt, O := O0, P := P0, Y := Y0, A := A0, Z := Z0, X := X0, B := HB.out }
  clear O0 P0 Y0 A0 Z0 X0 HB hwm hlt
  have jp : I64 p := ⟨by omega, by omega⟩; have jq : I64 q := ⟨by omega, by omega⟩; have jr : I64 r := ⟨by omega, by omega⟩
  obtain ⟨jx, jy, jz⟩ := HS.out.i64 ix iy iz
  obtain ⟨p0, p1, p2⟩ := hS.P.cells
  obtain ⟨y0, y1', y2⟩ := hS.Y.cells
  go_upto_region 4 with fail
  have hX0 := hS.X.lt
  have T := O3.new U1 27 (.int .i64 x) (.int .i64 y) (.int .i64 z)
  obtain ⟨tb, htb⟩ : ∃ b, U1.heap.size = b := ⟨_, rfl⟩
  rw [htb] at T hX0
  replace hS := hS.keep ((Below.refl _ _).alloc (Nat.le_refl _) (.cells #[.int .i64 x, .int .i64 y, .int .i64 z] 27))
  try simp only [htb]
  generalize U1.alloc (.cells #[.int .i64 x, .int .i64 y, .int .i64 z] 27) = U2 at *
  clear p0 p1 p2 y0 y1' y2
  obtain ⟨p0, p1, p2⟩ := hS.P.cells
  obtain ⟨y0, y1', y2⟩ := hS.Y.cells
  go_wp2_with fail
  refine (refAdd x p ix jp _).mono ?_; rintro e U3 ⟨rfl, q1⟩
  replace hS := hS.keep q1; replace T := T.keep q1
  clear q1 p0 p1 p2 y0 y1' y2
  obtain ⟨t0, t1, t2⟩ := T.thaw
  obtain ⟨g0, g1, g2⟩ := T.cells
  go_upto_region 5 with fail
  replace hS := hS.oth hX0 (o := 0) (.int .i64 (sat (x + p)))
  replace T := T.set0 (.int .i64 (sat (x + p)))
  clear t0 t1 t2 g0 g1 g2
  generalize U3.setCell ⟨tb, 0, none⟩ (.int .i64 (sat (x + p))) = U4 at *
  obtain ⟨m0, m1, m2, m3, m4⟩ := hS.O.cells
  obtain ⟨g0, g1, g2⟩ := T.cells
  go_wp2_with fail
  refine (HFR.out _ _ _ (sat_i64 _) iy iz _ hS.B).mono ?_; rintro e U5 ⟨rfl, q1⟩
  replace hS := hS.keep q1; replace T := T.keep q1
  clear q1 m0 m1 m2 m3 m4 g0 g1 g2
  have e1 := HS.out.ex
  have e2 := HS.out.d1
  obtain ⟨f, hf⟩ : ∃ f, R (sat (x + p)) y z = f := ⟨_, rfl⟩
  rw [hf] at e1 e2 ⊢
  clear hf
  cases f
  case' true =>
    replace e1 : x1 = sat (x + p) := e1
    replace e2 : b1 = false := e2
    obtain ⟨g0, g1, g2⟩ := T.cells
    obtain ⟨p0, p1, p2⟩ := hS.P.cells
    obtain ⟨f0, f1, f2⟩ := hS.P.thaw
    go_upto_region 8 with fail
    replace hS := hS.pos (sat (x + p)) y z
    clear g0 g1 g2 p0 p1 p2 f0 f1 f2 T
    generalize ((U5.setCell ⟨mb + 1, 0, none⟩ (.int .i64 (sat (x + p)))).setCell ⟨mb + 1, 1, none⟩ (.int .i64 y)).setCell ⟨mb + 1, 2, none⟩ (.int .i64 z) = U6 at *
    obtain ⟨y0, y1', y2⟩ := hS.Y.cells
    obtain ⟨u0, u1, u2⟩ := hS.X.thaw
    obtain ⟨xc0, xc1, xc2⟩ := hS.X.cells
    go_upto_region 9 with fail
    replace hS := hS.x0 false
    clear y0 y1' y2 u0 u1 u2 xc0 xc1 xc2
    generalize U6.setCell ⟨bb, 0, none⟩ (.bool false) = U1 at *
    rw [← e1] at hS
    replace hS : SlRs w (U1) mb bb W D H mp mn mc sp sn sc p q r x1 y z b1 false false := by rw [e2]; exact hS
    clear e1 e2
  case' false =>
    replace e1 : x1 = x := e1
    replace e2 : b1 = (p != 0) := e2.trans (by unfold bl; by_cases hd : p = 0 <;> simp [hd])
    have E1 := hid e1; have E2 := hid e2
    clear e1 e2 T
    obtain ⟨y0, y1', y2⟩ := hS.Y.cells
    obtain ⟨u0, u1, u2⟩ := hS.X.thaw
    obtain ⟨xc0, xc1, xc2⟩ := hS.X.cells
    go_upto_region 9 with fail
    replace hS := hS.x0 (p != 0)
    clear y0 y1' y2 u0 u1 u2 xc0 xc1 xc2
    generalize U5.setCell ⟨bb, 0, none⟩ (.bool (p != 0)) = U1 at *
    replace hS : SlRs w (U1) mb bb W D H mp mn mc sp sn sc p q r x1 y z b1 false false := by rw [E1.out, E2.out]; exact hS
    clear E1 E2
  all_goals
    clear htb hX0
    obtain ⟨p0, p1, p2⟩ := hS.P.cells
    obtain ⟨y0, y1', y2⟩ := hS.Y.cells
    go_upto_region 10 with fail
    have hX0 := hS.X.lt
    have T := O3.new U1 27 (.int .i64 x1) (.int .i64 y) (.int .i64 z)
    obtain ⟨tb, htb⟩ : ∃ b, U1.heap.size = b := ⟨_, rfl⟩
    rw [htb] at T hX0
    replace hS := hS.keep ((Below.refl _ _).alloc (Nat.le_refl _) (.cells #[.int .i64 x1, .int .i64 y, .int .i64 z] 27))
    try simp only [htb]
    generalize U1.alloc (.cells #[.int .i64 x1, .int .i64 y, .int .i64 z] 27) = U2 at *
    clear p0 p1 p2 y0 y1' y2
    obtain ⟨p0, p1, p2⟩ := hS.P.cells
    obtain ⟨y0, y1', y2⟩ := hS.Y.cells
    go_wp2_with fail
    refine (refAdd y q iy jq _).mono ?_; rintro e U3 ⟨rfl, q1⟩
    replace hS := hS.keep q1; replace T := T.keep q1
    clear q1 p0 p1 p2 y0 y1' y2
    obtain ⟨t0, t1, t2⟩ := T.thaw
    obtain ⟨g0, g1, g2⟩ := T.cells
    go_upto_region 11 with fail
    replace hS := hS.oth hX0 (o := 1) (.int .i64 (sat (y + q)))
    replace T := T.set1 (.int .i64 (sat (y + q)))
    clear t0 t1 t2 g0 g1 g2
    generalize U3.setCell ⟨tb, 1, none⟩ (.int .i64 (sat (y + q))) = U4 at *
    obtain ⟨m0, m1, m2, m3, m4⟩ := hS.O.cells
    obtain ⟨g0, g1, g2⟩ := T.cells
    go_wp2_with fail
    refine (HFR.out _ _ _ jx (sat_i64 _) iz _ hS.B).mono ?_; rintro e U5 ⟨rfl, q1⟩
    replace hS := hS.keep q1; replace T := T.keep q1
    clear q1 m0 m1 m2 m3 m4 g0 g1 g2
    have e1 := HS.out.ey
    have e2 := HS.out.d2
    obtain ⟨f, hf⟩ : ∃ f, R x1 (sat (y + q)) z = f := ⟨_, rfl⟩
    rw [hf] at e1 e2 ⊢
    clear hf
    cases f
    case' true =>
      replace e1 : y1 = sat (y + q) := e1
      replace e2 : b2 = false := e2
      obtain ⟨g0, g1, g2⟩ := T.cells
      obtain ⟨p0, p1, p2⟩ := hS.P.cells
      obtain ⟨f0, f1, f2⟩ := hS.P.thaw
      go_upto_region 14 with fail
      replace hS := hS.pos x1 (sat (y + q)) z
      clear g0 g1 g2 p0 p1 p2 f0 f1 f2 T
      generalize ((U5.setCell ⟨mb + 1, 0, none⟩ (.int .i64 x1)).setCell ⟨mb + 1, 1, none⟩ (.int .i64 (sat (y + q)))).setCell ⟨mb + 1, 2, none⟩ (.int .i64 z) = U6 at *
      obtain ⟨y0, y1', y2⟩ := hS.Y.cells
      obtain ⟨u0, u1, u2⟩ := hS.X.thaw
      obtain ⟨xc0, xc1, xc2⟩ := hS.X.cells
      go_upto_region 15 with fail
      replace hS := hS.x1 false
      clear y0 y1' y2 u0 u1 u2 xc0 xc1 xc2
      generalize U6.setCell ⟨bb, 1, none⟩ (.bool false) = U1 at *
      rw [← e1] at hS
      replace hS : SlRs w (U1) mb bb W D H mp mn mc sp sn sc p q r x1 y1 z b1 b2 false := by rw [e2]; exact hS
      clear e1 e2
    case' false =>
      replace e1 : y1 = y := e1
      replace e2 : b2 = (q != 0) := e2.trans (by unfold bl; by_cases hd : q = 0 <;> simp [hd])
      have E1 := hid e1; have E2 := hid e2
      clear e1 e2 T
      obtain ⟨y0, y1', y2⟩ := hS.Y.cells
      obtain ⟨u0, u1, u2⟩ := hS.X.thaw
      obtain ⟨xc0, xc1, xc2⟩ := hS.X.cells
      go_upto_region 15 with fail
      replace hS := hS.x1 (q != 0)
      clear y0 y1' y2 u0 u1 u2 xc0 xc1 xc2
      generalize U5.setCell ⟨bb, 1, none⟩ (.bool (q != 0)) = U1 at *
      replace hS : SlRs w (U1) mb bb W D H mp mn mc sp sn sc p q r x1 y1 z b1 b2 false := by rw [E1.out, E2.out]; exact hS
      clear E1 E2
    all_goals
      clear htb hX0
      obtain ⟨p0, p1, p2⟩ := hS.P.cells
      obtain ⟨y0, y1', y2⟩ := hS.Y.cells
      go_upto_region 16 with fail
      have hX0 := hS.X.lt
      have T := O3.new U1 27 (.int .i64 x1) (.int .i64 y1) (.int .i64 z)
      obtain ⟨tb, htb⟩ : ∃ b, U1.heap.size = b := ⟨_, rfl⟩
      rw [htb] at T hX0
      replace hS := hS.keep ((Below.refl _ _).alloc (Nat.le_refl _) (.cells #[.int .i64 x1, .int .i64 y1, .int .i64 z] 27))
      try simp only [htb]
      generalize U1.alloc (.cells #[.int .i64 x1, .int .i64 y1, .int .i64 z] 27) = U2 at *
      clear p0 p1 p2 y0 y1' y2
      obtain ⟨p0, p1, p2⟩ := hS.P.cells
      obtain ⟨y0, y1', y2⟩ := hS.Y.cells
      go_wp2_with fail
      refine (refAdd z r iz jr _).mono ?_; rintro e U3 ⟨rfl, q1⟩
      replace hS := hS.keep q1; replace T := T.keep q1
      clear q1 p0 p1 p2 y0 y1' y2
      obtain ⟨t0, t1, t2⟩ := T.thaw
      obtain ⟨g0, g1, g2⟩ := T.cells
      go_upto_region 17 with fail
      replace hS := hS.oth hX0 (o := 2) (.int .i64 (sat (z + r)))
      replace T := T.set2 (.int .i64 (sat (z + r)))
      clear t0 t1 t2 g0 g1 g2
      generalize U3.setCell ⟨tb, 2, none⟩ (.int .i64 (sat (z + r))) = U4 at *
      obtain ⟨m0, m1, m2, m3, m4⟩ := hS.O.cells
      obtain ⟨g0, g1, g2⟩ := T.cells
      go_wp2_with fail
      refine (HFR.out _ _ _ jx jy (sat_i64 _) _ hS.B).mono ?_; rintro e U5 ⟨rfl, q1⟩
      replace hS := hS.keep q1; replace T := T.keep q1
      clear q1 m0 m1 m2 m3 m4 g0 g1 g2
      have e1 := HS.out.ez
      have e2 := HS.out.d3
      obtain ⟨f, hf⟩ : ∃ f, R x1 y1 (sat (z + r)) = f := ⟨_, rfl⟩
      rw [hf] at e1 e2 ⊢
      clear hf
      cases f
      case' true =>
        replace e1 : z1 = sat (z + r) := e1
        replace e2 : b3 = false := e2
        obtain ⟨g0, g1, g2⟩ := T.cells
        obtain ⟨p0, p1, p2⟩ := hS.P.cells
        obtain ⟨f0, f1, f2⟩ := hS.P.thaw
        go_upto_region 20 with fail
        replace hS := hS.pos x1 y1 (sat (z + r))
        clear g0 g1 g2 p0 p1 p2 f0 f1 f2 T
        generalize ((U5.setCell ⟨mb + 1, 0, none⟩ (.int .i64 x1)).setCell ⟨mb + 1, 1, none⟩ (.int .i64 y1)).setCell ⟨mb + 1, 2, none⟩ (.int .i64 (sat (z + r))) = U6 at *
        obtain ⟨y0, y1', y2⟩ := hS.Y.cells
        obtain ⟨u0, u1, u2⟩ := hS.X.thaw
        obtain ⟨xc0, xc1, xc2⟩ := hS.X.cells
        go_upto_region 21 with fail
        replace hS := hS.x2 false
        clear y0 y1' y2 u0 u1 u2 xc0 xc1 xc2
        generalize U6.setCell ⟨bb, 2, none⟩ (.bool false) = U1 at *
        rw [← e1] at hS
        replace hS : SlRs w (U1) mb bb W D H mp mn mc sp sn sc p q r x1 y1 z1 b1 b2 b3 := by rw [e2]; exact hS
        clear e1 e2
      case' false =>
        replace e1 : z1 = z := e1
        replace e2 : b3 = (r != 0) := e2.trans (by unfold bl; by_cases hd : r = 0 <;> simp [hd])
        have E1 := hid e1; have E2 := hid e2
        clear e1 e2 T
        obtain ⟨y0, y1', y2⟩ := hS.Y.cells
        obtain ⟨u0, u1, u2⟩ := hS.X.thaw
        obtain ⟨xc0, xc1, xc2⟩ := hS.X.cells
        go_upto_region 21 with fail
        replace hS := hS.x2 (r != 0)
        clear y0 y1' y2 u0 u1 u2 xc0 xc1 xc2
        generalize U5.setCell ⟨bb, 2, none⟩ (.bool (r != 0)) = U1 at *
        replace hS : SlRs w (U1) mb bb W D H mp mn mc sp sn sc p q r x1 y1 z1 b1 b2 b3 := by rw [E1.out, E2.out]; exact hS
        clear E1 E2
      all_goals
        clear htb hX0
        have hlt := hS.h1
        obtain ⟨p0, p1, p2⟩ := hS.P.cells
        obtain ⟨xc0, xc1, xc2⟩ := hS.X.cells
        obtain ⟨t0, t1, t2⟩ := hS.A.thaw
        obtain ⟨u0, u1, u2⟩ := hS.Z.thaw
        obtain ⟨v0, v1, v2⟩ := hS.A.cells
        obtain ⟨z0, z1', z2⟩ := hS.Z.cells
        go_upto_region 21 with fail
        go_region
        have hA := ((hS.A.set (.int .i64 x1) (.int .i64 y1) (.int .i64 z1)).others (show mb + 1 + 1 + 1 ≠ mb + 1 + 1 + 1 + 1 by omega) (.bool b1) (.bool b2) (.bool b3)).keep (Below.refl _ _).drew
        have hZ := ((hS.Z.others (show mb + 1 + 1 + 1 + 1 ≠ mb + 1 + 1 + 1 by omega) (.int .i64 x1) (.int .i64 y1) (.int .i64 z1)).set (.bool b1) (.bool b2) (.bool b3)).keep (Below.refl _ _).drew
        have h00 := hS.h0
        have hB := (below_set3 (below_set3 hS.B (show w.heap.size ≤ mb + 1 + 1 + 1 by omega) (.int .i64 x1) (.int .i64 y1) (.int .i64 z1)) (show w.heap.size ≤ mb + 1 + 1 + 1 + 1 by omega) (.bool b1) (.bool b2) (.bool b3)).drew
        clear p0 p1 p2 xc0 xc1 xc2 t0 t1 t2 u0 u1 u2 v0 v1 v2 z0 z1' z2 hS
        generalize ((((((U1.setCell ⟨mb + 1 + 1 + 1, 0, none⟩ (.int .i64 x1)).setCell ⟨mb + 1 + 1 + 1, 1, none⟩ (.int .i64 y1)).setCell ⟨mb + 1 + 1 + 1, 2, none⟩ (.int .i64 z1)).setCell ⟨mb + 1 + 1 + 1 + 1, 0, none⟩ (.bool b1)).setCell ⟨mb + 1 + 1 + 1 + 1, 1, none⟩ (.bool b2)).setCell ⟨mb + 1 + 1 + 1 + 1, 2, none⟩ (.bool b3)).drew = V9 at *
        obtain ⟨v0, v1, v2⟩ := hA.cells
        obtain ⟨z0, z1', z2⟩ := hZ.cells
        go_wp2
        refine bodyPost_ret (v := .tuple #[.agg #[.int .i64 x1, .int .i64 y1, .int .i64 z1], .agg #[.bool b1, .bool b2, .bool b3]]) ?_ rfl ⟨rfl, hB⟩
        simp [results, Try.results29, go_sem, v0, v1, v2, z0, z1', z2]
end Go.Proofs.Ytjjdclckkhddbaa
