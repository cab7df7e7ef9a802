/- Layer 12 (shot): the contract of bounced. -/
import Derived.Test.YthcmcjklhcfenaaShB
import Derived.Deep.RegionWith
namespace Go.Proofs.Ythcmcjklhcfenaa
open Go.RowKit
set_option linter.unusedVariables false
set_option linter.unusedSimpArgs false
attribute [local go_sem ↓] Go.wp_at_zero Go.wp_at_succ

/-- How bounced's boxes lie. -/
structure BnSt (w V : World) (mb kb : Nat) (W D H : Int) (mp : Option Addr) (mn mc : Nat) (sp : Option Addr) (sn sc : Nat) (i o k f : Int) (r : Bool) (x y z a b c : Int) : Prop where
  h0 : w.heap.size ≤ mb
  h1 : mb + 1 + 1 < kb
  O : O5 V mb (.int .i64 W) (.int .i64 D) (.int .i64 H) (.slice mp mn mc) (.slice sp sn sc)
  P : ShAt V (mb + 1) ⟨i, o, k, x, y, z, a, b, c, f, r⟩
  Z : ShAt V (mb + 1 + 1) noSh
  N : O3 V kb 64 (.pointer (some ⟨mb + 1, 6, none⟩)) (.pointer (some ⟨mb + 1, 7, none⟩)) (.pointer (some ⟨mb + 1, 8, none⟩))
  B : Below w.heap.size w V
theorem BnSt.keep {w V : World} {mb kb : Nat} {W D H : Int} {mp : Option Addr} {mn mc : Nat} {sp : Option Addr} {sn sc : Nat} {i o k f : Int} {r : Bool} {x y z a b c : Int} (h : BnSt w (V) mb kb W D H mp mn mc sp sn sc i o k f r x y z a b c) {V' : World} (hb : Below V.heap.size V V') : BnSt w (V') mb kb W D H mp mn mc sp sn sc i o k f r x y z a b c :=
  ⟨h.h0, h.h1, h.O.keep hb, h.P.keep hb, h.Z.keep hb, h.N.keep hb, btrans h.B hb⟩
theorem BnSt.cells {w V : World} {mb kb : Nat} {W D H : Int} {mp : Option Addr} {mn mc : Nat} {sp : Option Addr} {sn sc : Nat} {i o k f : Int} {r : Bool} {x y z a b c : Int} (h : BnSt w (V) mb kb W D H mp mn mc sp sn sc i o k f r x y z a b c) : V.cell? ⟨mb + 1, 0, none⟩ = some (.int .i64 i) ∧ V.cell? ⟨mb + 1, 1, none⟩ = some (.int .i64 o) ∧ V.cell? ⟨mb + 1, 2, none⟩ = some (.int .i64 k) ∧ V.cell? ⟨mb + 1, 3, none⟩ = some (.int .i64 x) ∧ V.cell? ⟨mb + 1, 4, none⟩ = some (.int .i64 y) ∧ V.cell? ⟨mb + 1, 5, none⟩ = some (.int .i64 z) ∧ V.cell? ⟨mb + 1, 6, none⟩ = some (.int .i64 a) ∧ V.cell? ⟨mb + 1, 7, none⟩ = some (.int .i64 b) ∧ V.cell? ⟨mb + 1, 8, none⟩ = some (.int .i64 c) ∧ V.cell? ⟨mb + 1, 9, none⟩ = some (.int .i64 f) ∧ V.cell? ⟨mb + 1, 10, none⟩ = some (.bool r) := h.P.cells
theorem BnSt.p0 {w V : World} {mb kb : Nat} {W D H : Int} {mp : Option Addr} {mn mc : Nat} {sp : Option Addr} {sn sc : Nat} {i o k f : Int} {r : Bool} {x y z a b c : Int} (h : BnSt w (V) mb kb W D H mp mn mc sp sn sc i o k f r x y z a b c) (n : Int) : BnSt w (V.setCell ⟨mb + 1, 3, none⟩ (.int .i64 n)) mb kb W D H mp mn mc sp sn sc i o k f r n y z a b c := by
  obtain ⟨h0, h1, hO, hP, hZ, hN, hB⟩ := h
  have fr := fr1 V (mb + 1) 3 (.int .i64 n)
  exact ⟨h0, h1, hO.fr fr (show ¬ (mb = mb + 1) by omega), hP.s3 n, hZ.fr fr (show ¬ (mb + 1 + 1 = mb + 1) by omega), hN.fr fr (show ¬ (kb = mb + 1) by omega), below_fr hB fr (Nat.le_refl _) (by intro q hq; replace hq : q = mb + 1 := hq; omega)⟩
theorem BnSt.p1 {w V : World} {mb kb : Nat} {W D H : Int} {mp : Option Addr} {mn mc : Nat} {sp : Option Addr} {sn sc : Nat} {i o k f : Int} {r : Bool} {x y z a b c : Int} (h : BnSt w (V) mb kb W D H mp mn mc sp sn sc i o k f r x y z a b c) (n : Int) : BnSt w (V.setCell ⟨mb + 1, 4, none⟩ (.int .i64 n)) mb kb W D H mp mn mc sp sn sc i o k f r x n z a b c := by
  obtain ⟨h0, h1, hO, hP, hZ, hN, hB⟩ := h
  have fr := fr1 V (mb + 1) 4 (.int .i64 n)
  exact ⟨h0, h1, hO.fr fr (show ¬ (mb = mb + 1) by omega), hP.s4 n, hZ.fr fr (show ¬ (mb + 1 + 1 = mb + 1) by omega), hN.fr fr (show ¬ (kb = mb + 1) by omega), below_fr hB fr (Nat.le_refl _) (by intro q hq; replace hq : q = mb + 1 := hq; omega)⟩
theorem BnSt.p2 {w V : World} {mb kb : Nat} {W D H : Int} {mp : Option Addr} {mn mc : Nat} {sp : Option Addr} {sn sc : Nat} {i o k f : Int} {r : Bool} {x y z a b c : Int} (h : BnSt w (V) mb kb W D H mp mn mc sp sn sc i o k f r x y z a b c) (n : Int) : BnSt w (V.setCell ⟨mb + 1, 5, none⟩ (.int .i64 n)) mb kb W D H mp mn mc sp sn sc i o k f r x y n a b c := by
  obtain ⟨h0, h1, hO, hP, hZ, hN, hB⟩ := h
  have fr := fr1 V (mb + 1) 5 (.int .i64 n)
  exact ⟨h0, h1, hO.fr fr (show ¬ (mb = mb + 1) by omega), hP.s5 n, hZ.fr fr (show ¬ (mb + 1 + 1 = mb + 1) by omega), hN.fr fr (show ¬ (kb = mb + 1) by omega), below_fr hB fr (Nat.le_refl _) (by intro q hq; replace hq : q = mb + 1 := hq; omega)⟩
theorem BnSt.v0 {w V : World} {mb kb : Nat} {W D H : Int} {mp : Option Addr} {mn mc : Nat} {sp : Option Addr} {sn sc : Nat} {i o k f : Int} {r : Bool} {x y z a b c : Int} (h : BnSt w (V) mb kb W D H mp mn mc sp sn sc i o k f r x y z a b c) (n : Int) : BnSt w (V.setCell ⟨mb + 1, 6, none⟩ (.int .i64 n)) mb kb W D H mp mn mc sp sn sc i o k f r x y z n b c := by
  obtain ⟨h0, h1, hO, hP, hZ, hN, hB⟩ := h
  have fr := fr1 V (mb + 1) 6 (.int .i64 n)
  exact ⟨h0, h1, hO.fr fr (show ¬ (mb = mb + 1) by omega), hP.s6 n, hZ.fr fr (show ¬ (mb + 1 + 1 = mb + 1) by omega), hN.fr fr (show ¬ (kb = mb + 1) by omega), below_fr hB fr (Nat.le_refl _) (by intro q hq; replace hq : q = mb + 1 := hq; omega)⟩
theorem BnSt.v1 {w V : World} {mb kb : Nat} {W D H : Int} {mp : Option Addr} {mn mc : Nat} {sp : Option Addr} {sn sc : Nat} {i o k f : Int} {r : Bool} {x y z a b c : Int} (h : BnSt w (V) mb kb W D H mp mn mc sp sn sc i o k f r x y z a b c) (n : Int) : BnSt w (V.setCell ⟨mb + 1, 7, none⟩ (.int .i64 n)) mb kb W D H mp mn mc sp sn sc i o k f r x y z a n c := by
  obtain ⟨h0, h1, hO, hP, hZ, hN, hB⟩ := h
  have fr := fr1 V (mb + 1) 7 (.int .i64 n)
  exact ⟨h0, h1, hO.fr fr (show ¬ (mb = mb + 1) by omega), hP.s7 n, hZ.fr fr (show ¬ (mb + 1 + 1 = mb + 1) by omega), hN.fr fr (show ¬ (kb = mb + 1) by omega), below_fr hB fr (Nat.le_refl _) (by intro q hq; replace hq : q = mb + 1 := hq; omega)⟩
theorem BnSt.v2 {w V : World} {mb kb : Nat} {W D H : Int} {mp : Option Addr} {mn mc : Nat} {sp : Option Addr} {sn sc : Nat} {i o k f : Int} {r : Bool} {x y z a b c : Int} (h : BnSt w (V) mb kb W D H mp mn mc sp sn sc i o k f r x y z a b c) (n : Int) : BnSt w (V.setCell ⟨mb + 1, 8, none⟩ (.int .i64 n)) mb kb W D H mp mn mc sp sn sc i o k f r x y z a b n := by
  obtain ⟨h0, h1, hO, hP, hZ, hN, hB⟩ := h
  have fr := fr1 V (mb + 1) 8 (.int .i64 n)
  exact ⟨h0, h1, hO.fr fr (show ¬ (mb = mb + 1) by omega), hP.s8 n, hZ.fr fr (show ¬ (mb + 1 + 1 = mb + 1) by omega), hN.fr fr (show ¬ (kb = mb + 1) by omega), below_fr hB fr (Nat.le_refl _) (by intro q hq; replace hq : q = mb + 1 := hq; omega)⟩
inductive BnI (x y z a b c x1 y1 z1 a1 b1 c1 : Int) (d1 d2 d3 : Bool) : Nat → Int → Int → Int → Int → Int → Int → Bool → Prop
  | s0 : BnI x y z a b c x1 y1 z1 a1 b1 c1 d1 d2 d3 0 x y z a b c false
  | s1 : BnI x y z a b c x1 y1 z1 a1 b1 c1 d1 d2 d3 1 x1 y z a1 b c d1
  | s2 : BnI x y z a b c x1 y1 z1 a1 b1 c1 d1 d2 d3 2 x1 y1 z a1 b1 c d2
  | s3 : BnI x y z a b c x1 y1 z1 a1 b1 c1 d1 d2 d3 3 x1 y1 z1 a1 b1 c1 d3
theorem fclamp_sct (n : Int) : fclamp n 32768 = sct n := by unfold fclamp sct; split <;> (try split) <;> omega
theorem fclamp_slw (n : Int) : (n == fclamp n 2047) = slw2 n := by
  unfold slw2 fclamp
  rw [Bool.eq_iff_iff]
  simp only [beq_iff_eq, Bool.and_eq_true, decide_eq_true_eq]
  split <;> (try split) <;> omega
set_option maxRecDepth 100000 in
set_option maxHeartbeats 8000000 in
theorem shotBounced (W D H : Int) (mp : Option Addr) (mn mc : Nat) (mf : Nat → Bool) (sp : Option Addr) (sn sc : Nat) (s : Sh) (hs : s.In 1000000000 10000000) (q : Sh) (hq : sgr (mpOf W D H mn mf).sol s (sct s.vx) (sct s.vy) (sct (s.vz - 1024)) = q) (w : World) (hm : Arg w mp mn mc fun i => .bool (mf i)) :
    Calls Try.prog 25 #[.agg #[.int .i64 W, .int .i64 D, .int .i64 H, .slice mp mn mc, .slice sp sn sc], .agg #[.int .i64 s.id, .int .i64 s.ow, .int .i64 s.kd, .int .i64 s.px, .int .i64 s.py, .int .i64 s.pz, .int .i64 s.vx, .int .i64 s.vy, .int .i64 s.vz, .int .i64 s.fu, .bool s.rs]] w fun e w' => e = .returned (.agg #[.int .i64 q.id, .int .i64 q.ow, .int .i64 q.kd, .int .i64 q.px, .int .i64 q.py, .int .i64 q.pz, .int .i64 q.vx, .int .i64 q.vy, .int .i64 q.vz, .int .i64 q.fu, .bool q.rs]) ∧ Below w.heap.size w w' := by
  obtain ⟨i, o, k, x, y, z, va, vb, vc, f, r⟩ := s
  obtain ⟨x0, x1', y0, y1', z0, z1', a0, a1', b0, b1', c0, c1', f0, f1⟩ := hs
  unfold sgr Sh.bnc at hq
  dsimp only at *
  have HS := hid (fun X Y Z iX iY iZ V (hV : Below w.heap.size w V) => shotSolid W D H mp mn mc mf sp sn sc X Y Z iX iY iZ V (hm.keep hV))
  have HSUB := hid (fun V => fixSub vc 1024 (i64_in (by omega) (by omega)) (i64_in (by omega) (by omega)) V)
  rw [sat_id (i64_in (n := vc - 1024) (by omega) (by omega))] at HSUB
  have HCL := hid (fun V => fixVecClampP va vb (vc - 1024) 32768 (i64_in (by omega) (by omega)) (i64_in (by omega) (by omega)) (i64_in (by omega) (by omega)) (i64_in (by omega) (by omega)) (by omega) V)
  rw [fclamp_sct, fclamp_sct, fclamp_sct] at HCL
  have na := sct_near va; have nb := sct_near vb; have nc := sct_near (vc - 1024)
  obtain ⟨a, ea⟩ : ∃ n, sct va = n := ⟨_, rfl⟩
  obtain ⟨b, eb⟩ : ∃ n, sct vb = n := ⟨_, rfl⟩
  obtain ⟨c, ec⟩ : ∃ n, sct (vc - 1024) = n := ⟨_, rfl⟩
  rw [ea, eb, ec] at HCL
  simp only [ea, eb, ec] at hq
  rw [ea] at na; rw [eb] at nb; rw [ec] at nc
  obtain ⟨u, eu⟩ : ∃ n, vc - 1024 = n := ⟨_, rfl⟩
  rw [eu] at HCL HSUB
  clear ea eb ec eu hm
  obtain ⟨S, eS⟩ : ∃ S, (mpOf W D H mn mf).sol = S := ⟨_, rfl⟩
  rw [eS] at HS
  simp only [eS] at hq
  clear eS
  obtain ⟨d1, ed1⟩ : ∃ d, S (x + a) y z = d := ⟨_, rfl⟩
  simp only [ed1] at hq
  obtain ⟨x1, ex1⟩ : ∃ n, axN d1 x a = n := ⟨_, rfl⟩
  simp only [ex1] at hq
  obtain ⟨d2, ed2⟩ : ∃ d, S x1 (y + b) z = d := ⟨_, rfl⟩
  simp only [ed2] at hq
  obtain ⟨y1, ey1⟩ : ∃ n, axN d2 y b = n := ⟨_, rfl⟩
  simp only [ey1] at hq
  obtain ⟨d3, ed3⟩ : ∃ d, S x1 y1 (z + c) = d := ⟨_, rfl⟩
  simp only [ed3] at hq
  obtain ⟨z1, ez1⟩ : ∃ n, axN d3 z c = n := ⟨_, rfl⟩
  obtain ⟨a1, ea1⟩ : ∃ n, axV d1 a = n := ⟨_, rfl⟩
  obtain ⟨b1, eb1⟩ : ∃ n, axV d2 b = n := ⟨_, rfl⟩
  obtain ⟨c1, ec1⟩ : ∃ n, axV d3 c = n := ⟨_, rfl⟩
  obtain ⟨fl, hfl⟩ : ∃ d, decide (c < 0) = d := ⟨_, rfl⟩
  simp only [ez1, ea1, eb1, ec1, hfl] at hq
  obtain ⟨rr, err⟩ : ∃ d, (d3 && fl && slw2 a1 && slw2 b1 && slw2 c1) = d := ⟨_, rfl⟩
  simp only [err] at hq
  have nx1 := axN_near (b := d1) (L := 32768) x0 x1' na.1 na.2 (by omega)
  have ny1 := axN_near (b := d2) (L := 32768) y0 y1' nb.1 nb.2 (by omega)
  have na1 := axV_near (b := d1) na; have nb1 := axV_near (b := d2) nb; have nc1 := axV_near (b := d3) nc
  rw [ex1] at nx1; rw [ey1] at ny1; rw [ea1] at na1; rw [eb1] at nb1; rw [ec1] at nc1
  have HA1 := hid (fun V => fixAdd x a (i64_in (by omega) (by omega)) (i64_in (by omega) (by omega)) V)
  have HA2 := hid (fun V => fixAdd y b (i64_in (by omega) (by omega)) (i64_in (by omega) (by omega)) V)
  have HA3 := hid (fun V => fixAdd z c (i64_in (by omega) (by omega)) (i64_in (by omega) (by omega)) V)
  rw [sat_id (i64_in (n := x + a) (by omega) (by omega))] at HA1
  rw [sat_id (i64_in (n := y + b) (by omega) (by omega))] at HA2
  rw [sat_id (i64_in (n := z + c) (by omega) (by omega))] at HA3
  have HS1 := hid (HS.out (x + a) y z (i64_in (by omega) (by omega)) (i64_in (by omega) (by omega)) (i64_in (by omega) (by omega)))
  have HS2 := hid (HS.out x1 (y + b) z (i64_in (by omega) (by omega)) (i64_in (by omega) (by omega)) (i64_in (by omega) (by omega)))
  have HS3 := hid (HS.out x1 y1 (z + c) (i64_in (by omega) (by omega)) (i64_in (by omega) (by omega)) (i64_in (by omega) (by omega)))
  rw [ed1] at HS1; rw [ed2] at HS2; rw [ed3] at HS3
  have HC2 := hid (fun V => fixVecClampP a1 b1 c1 2047 (i64_in (by omega) (by omega)) (i64_in (by omega) (by omega)) (i64_in (by omega) (by omega)) (i64_in (by omega) (by omega)) (by omega) V)
  have W1 : IntKind.i64.wrap (-a) = -a := wrapI (by omega) (by omega)
  have W2 : IntKind.i64.wrap (-b) = -b := wrapI (by omega) (by omega)
  have W3 : IntKind.i64.wrap (-c) = -c := wrapI (by omega) (by omega)
  have mv1 := hfd_near na; have mv2 := hfd_near nb; have mv3 := hfd_near nc
  unfold hfd at mv1 mv2 mv3
  have U1 : wrap64 (-(a.tdiv 2)) = (-a).tdiv 2 := by rw [Int.neg_tdiv] at mv1 ⊢; exact IntWalk.wrap64_in _ (by omega)
  have U2 : wrap64 (-(b.tdiv 2)) = (-b).tdiv 2 := by rw [Int.neg_tdiv] at mv2 ⊢; exact IntWalk.wrap64_in _ (by omega)
  have U3 : wrap64 (-(c.tdiv 2)) = (-c).tdiv 2 := by rw [Int.neg_tdiv] at mv3 ⊢; exact IntWalk.wrap64_in _ (by omega)
  have HW := hid (And.intro (And.intro W1 U1) (And.intro (And.intro W2 U2) (And.intro W3 U3)))
  have E1 := hid ex1; have E2 := hid ey1; have E3 := hid ez1; have F1 := hid ea1; have F2 := hid eb1; have F3 := hid ec1
  have HFL := hid hfl; have HRR := hid err; have hq := hid hq
  clear x0 x1' y0 y1' z0 z1' a0 a1' b0 b1' c0 c1' f0 f1 na nb nc nx1 ny1 na1 nb1 nc1 mv1 mv2 mv3 W1 W2 W3 U1 U2 U3 ex1 ey1 ez1 ea1 eb1 ec1 ed1 ed2 ed3 hfl err HS
  have O : O5 (((w.alloc (.cells #[.int .i64 W, .int .i64 D, .int .i64 H, .slice mp mn mc, .slice sp sn sc] 25)).alloc (.cells #[.int .i64 i, .int .i64 o, .int .i64 k, .int .i64 x, .int .i64 y, .int .i64 z, .int .i64 va, .int .i64 vb, .int .i64 vc, .int .i64 f, .bool r] 33)).alloc (.cells #[.int .i64 0, .int .i64 0, .int .i64 0, .int .i64 0, .int .i64 0, .int .i64 0, .int .i64 0, .int .i64 0, .int .i64 0, .int .i64 0, .bool false] 33)) (w.heap.size) (.int .i64 W) (.int .i64 D) (.int .i64 H) (.slice mp mn mc) (.slice sp sn sc) := ((O5.new _ _ _ _ _ _).alloc _).alloc _
  have P : ShAt (((w.alloc (.cells #[.int .i64 W, .int .i64 D, .int .i64 H, .slice mp mn mc, .slice sp sn sc] 25)).alloc (.cells #[.int .i64 i, .int .i64 o, .int .i64 k, .int .i64 x, .int .i64 y, .int .i64 z, .int .i64 va, .int .i64 vb, .int .i64 vc, .int .i64 f, .bool r] 33)).alloc (.cells #[.int .i64 0, .int .i64 0, .int .i64 0, .int .i64 0, .int .i64 0, .int .i64 0, .int .i64 0, .int .i64 0, .int .i64 0, .int .i64 0, .bool false] 33)) (w.heap.size + 1) ⟨i, o, k, x, y, z, va, vb, vc, f, r⟩ := (ShAt.new' _ ⟨i, o, k, x, y, z, va, vb, vc, f, r⟩ (by simp)).alloc _
  have Z : ShAt (((w.alloc (.cells #[.int .i64 W, .int .i64 D, .int .i64 H, .slice mp mn mc, .slice sp sn sc] 25)).alloc (.cells #[.int .i64 i, .int .i64 o, .int .i64 k, .int .i64 x, .int .i64 y, .int .i64 z, .int .i64 va, .int .i64 vb, .int .i64 vc, .int .i64 f, .bool r] 33)).alloc (.cells #[.int .i64 0, .int .i64 0, .int .i64 0, .int .i64 0, .int .i64 0, .int .i64 0, .int .i64 0, .int .i64 0, .int .i64 0, .int .i64 0, .bool false] 33)) (w.heap.size + 1 + 1) noSh := ShAt.new' _ noSh (by simp)
  have HB : Below w.heap.size w (((w.alloc (.cells #[.int .i64 W, .int .i64 D, .int .i64 H, .slice mp mn mc, .slice sp sn sc] 25)).alloc (.cells #[.int .i64 i, .int .i64 o, .int .i64 k, .int .i64 x, .int .i64 y, .int .i64 z, .int .i64 va, .int .i64 vb, .int .i64 vc, .int .i64 f, .bool r] 33)).alloc (.cells #[.int .i64 0, .int .i64 0, .int .i64 0, .int .i64 0, .int .i64 0, .int .i64 0, .int .i64 0, .int .i64 0, .int .i64 0, .int .i64 0, .bool false] 33)) := (((Below.refl _ _).alloc (Nat.le_refl _) _).alloc (by simp) _).alloc (by simp; omega) _
  go_enter Try.func25, Try.ntmps25
  go_upto_region 1 with fail
  obtain ⟨mb, hmb⟩ : ∃ b, w.heap.size = b := ⟨_, rfl⟩
  have hwm : w.heap.size ≤ mb := by omega
  rw [hmb] at O P Z
  try simp only [hmb]
  generalize (((w.alloc (.cells #[.int .i64 W, .int .i64 D, .int .i64 H, .slice mp mn mc, .slice sp sn sc] 25)).alloc (.cells #[.int .i64 i, .int .i64 o, .int .i64 k, .int .i64 x, .int .i64 y, .int .i64 z, .int .i64 va, .int .i64 vb, .int .i64 vc, .int .i64 f, .bool r] 33)).alloc (.cells #[.int .i64 0, .int .i64 0, .int .i64 0, .int .i64 0, .int .i64 0, .int .i64 0, .int .i64 0, .int .i64 0, .int .i64 0, .int .i64 0, .bool false] 33)) = V0 at *
  clear hmb
  obtain ⟨cP0, cP1, cP2, cP3, cP4, cP5, cP6, cP7, cP8, cP9, cP10⟩ := P.cells
  try dsimp only at cP0 cP1 cP2 cP3 cP4 cP5 cP6 cP7 cP8 cP9 cP10
  go_wp2_with fail
  refine (HSUB.out _).mono ?_; rintro e V1 ⟨rfl, hv⟩
  replace hv := hv.symm; subst hv
  obtain ⟨tP0, tP1, tP2, tP3, tP4, tP5, tP6, tP7, tP8, tP9, tP10⟩ := P.thaw
  go_upto_region 2 with fail
  clear cP0 cP1 cP2 cP3 cP4 cP5 cP6 cP7 cP8 cP9 cP10 tP0 tP1 tP2 tP3 tP4 tP5 tP6 tP7 tP8 tP9 tP10
  replace O := O.fr (fr1 _ (mb + 1) 8 (.int .i64 u)) (show ¬ (mb = mb + 1) by omega)
  replace P := P.s8 u
  replace Z := Z.fr (fr1 _ (mb + 1) 8 (.int .i64 u)) (show ¬ (mb + 1 + 1 = mb + 1) by omega)
  replace HB := below_fr HB (fr1 _ (mb + 1) 8 (.int .i64 u)) (Nat.le_refl _) (by intro k hk; replace hk : k = mb + 1 := hk; omega)
  generalize V0.setCell ⟨mb + 1, 8, none⟩ (.int .i64 u) = V2 at *
  replace P : ShAt V2 (mb + 1) ⟨i, o, k, x, y, z, va, vb, u, f, r⟩ := P
  obtain ⟨cP0, cP1, cP2, cP3, cP4, cP5, cP6, cP7, cP8, cP9, cP10⟩ := P.cells
  try dsimp only at cP0 cP1 cP2 cP3 cP4 cP5 cP6 cP7 cP8 cP9 cP10
  go_wp2_with fail
  refine (HCL.out _).mono ?_; rintro e V3 ⟨rfl, bq⟩
  clear cP0 cP1 cP2 cP3 cP4 cP5 cP6 cP7 cP8 cP9 cP10
  replace O := O.keep bq; replace P := P.keep bq; replace Z := Z.keep bq; replace HB := btrans HB bq
  clear bq
  obtain ⟨cP0, cP1, cP2, cP3, cP4, cP5, cP6, cP7, cP8, cP9, cP10⟩ := P.cells
  try dsimp only at cP0 cP1 cP2 cP3 cP4 cP5 cP6 cP7 cP8 cP9 cP10
  obtain ⟨tP0, tP1, tP2, tP3, tP4, tP5, tP6, tP7, tP8, tP9, tP10⟩ := P.thaw
  go_upto_region 3 with fail
  clear cP0 cP1 cP2 cP3 cP4 cP5 cP6 cP7 cP8 cP9 cP10 tP0 tP1 tP2 tP3 tP4 tP5 tP6 tP7 tP8 tP9 tP10
  replace O := O.fr (fr3 _ (mb + 1) 6 7 8 (.int .i64 a) (.int .i64 b) (.int .i64 c)) (show ¬ (mb = mb + 1) by omega)
  replace P := P.vel a b c
  replace Z := Z.fr (fr3 _ (mb + 1) 6 7 8 (.int .i64 a) (.int .i64 b) (.int .i64 c)) (show ¬ (mb + 1 + 1 = mb + 1) by omega)
  replace HB := below_fr HB (fr3 _ (mb + 1) 6 7 8 (.int .i64 a) (.int .i64 b) (.int .i64 c)) (Nat.le_refl _) (by intro k hk; replace hk : k = mb + 1 := hk; omega)
  generalize ((V3.setCell ⟨mb + 1, 6, none⟩ (.int .i64 a)).setCell ⟨mb + 1, 7, none⟩ (.int .i64 b)).setCell ⟨mb + 1, 8, none⟩ (.int .i64 c) = V4 at *
  replace P : ShAt V4 (mb + 1) ⟨i, o, k, x, y, z, a, b, c, f, r⟩ := P
  obtain ⟨cP0, cP1, cP2, cP3, cP4, cP5, cP6, cP7, cP8, cP9, cP10⟩ := P.cells
  try dsimp only at cP0 cP1 cP2 cP3 cP4 cP5 cP6 cP7 cP8 cP9 cP10
  go_upto_region 4 with fail
  try simp only [HFL.out]
  clear cP0 cP1 cP2 cP3 cP4 cP5 cP6 cP7 cP8 cP9 cP10
  go_wp2_with fail
  refine (shotAxes (mb + 1) 6 7 8 rfl rfl _).mono ?_; rintro e V5 ⟨rfl, bq⟩
  replace O := O.keep bq; replace P := P.keep bq; replace Z := Z.keep bq; replace HB := btrans HB bq
  clear bq
  go_upto_region 5 with fail
  have lZ := Z.lt
  replace O := O.alloc (.cells #[.pointer (some ⟨mb + 1, 6, none⟩), .pointer (some ⟨mb + 1, 7, none⟩), .pointer (some ⟨mb + 1, 8, none⟩)] 64)
  replace P := P.alloc (.cells #[.pointer (some ⟨mb + 1, 6, none⟩), .pointer (some ⟨mb + 1, 7, none⟩), .pointer (some ⟨mb + 1, 8, none⟩)] 64)
  replace Z := Z.alloc (.cells #[.pointer (some ⟨mb + 1, 6, none⟩), .pointer (some ⟨mb + 1, 7, none⟩), .pointer (some ⟨mb + 1, 8, none⟩)] 64)
  replace HB := HB.alloc HB.size (.cells #[.pointer (some ⟨mb + 1, 6, none⟩), .pointer (some ⟨mb + 1, 7, none⟩), .pointer (some ⟨mb + 1, 8, none⟩)] 64)
  have N := O3.new V5 64 (.pointer (some ⟨mb + 1, 6, none⟩)) (.pointer (some ⟨mb + 1, 7, none⟩)) (.pointer (some ⟨mb + 1, 8, none⟩))
  obtain ⟨kb, hkb⟩ : ∃ b, V5.heap.size = b := ⟨_, rfl⟩
  rw [hkb] at N lZ
  try simp only [hkb]
  generalize V5.alloc (.cells #[.pointer (some ⟨mb + 1, 6, none⟩), .pointer (some ⟨mb + 1, 7, none⟩), .pointer (some ⟨mb + 1, 8, none⟩)] 64) = V6 at *
  clear hkb
  go_wp2_with fail
  refine (shotAxes (mb + 1) 3 4 5 rfl rfl _).mono ?_; rintro e V7 ⟨rfl, bq⟩
  replace O := O.keep bq; replace P := P.keep bq; replace Z := Z.keep bq; replace N := N.keep bq; replace HB := btrans HB bq
  clear bq
  have hST : BnSt w (V7) mb kb W D H mp mn mc sp sn sc i o k f r x y z a b c := ⟨hwm, lZ, O, P, Z, N, HB⟩
  clear O P Z N HB hwm lZ HCL HSUB
  obtain ⟨ei0, ei1, ei2⟩ := idx3p (.pointer (some ⟨mb + 1, 3, none⟩)) (.pointer (some ⟨mb + 1, 4, none⟩)) (.pointer (some ⟨mb + 1, 5, none⟩))
  go_wp2
  go_loopw [6, 29] (fun h v wr => ∃ (j : Nat) (X Y Z A B C : Int) (hh : Bool) (V : World), v = .int .i64 j ∧ h = .bool hh ∧ wr = V ∧ BnI x y z a b c x1 y1 z1 a1 b1 c1 d1 d2 d3 j X Y Z A B C hh ∧ BnSt w (V) mb kb W D H mp mn mc sp sn sc i o k f r X Y Z A B C) (fun _ v _ => 3 - (intOf v).toNat)
  case atStart => exact ⟨0, _, _, _, _, _, _, _, _, rfl, rfl, rfl, .s0, hST⟩
  case round =>
    obtain ⟨j, X, Y, Z, A, B, C, hh, V, rfl, rfl, eV, hI, hS⟩ := hrel
    subst eV
    clear hST
    cases hI with
    | s0 =>
      obtain ⟨cc0, cc1, cc2, cc3, cc4, cc5, cc6, cc7, cc8, cc9, cc10⟩ := hS.cells
      obtain ⟨n0, n1, n2⟩ := hS.N.cells
      go_wp2_with fail
      refine (HA1.out _).mono ?_; rintro e V1 ⟨rfl, hv⟩
      replace hv := hv.symm; subst hv
      obtain ⟨tt0, tt1, tt2, tt3, tt4, tt5, tt6, tt7, tt8, tt9, tt10⟩ := hS.P.thaw
      go_upto_region 10 with fail
      clear cc0 cc1 cc2 cc3 cc4 cc5 cc6 cc7 cc8 cc9 cc10 tt0 tt1 tt2 tt3 tt4 tt5 tt6 tt7 tt8 tt9 tt10 n0 n1 n2
      replace hS := hS.p0 (x + a)
      generalize wr.setCell ⟨mb + 1, 3, none⟩ (.int .i64 (x + a)) = V2 at *
      obtain ⟨cc0, cc1, cc2, cc3, cc4, cc5, cc6, cc7, cc8, cc9, cc10⟩ := hS.cells
      obtain ⟨m0, m1, m2, m3, m4⟩ := hS.O.cells
      go_wp2_with fail
      refine (HS1.out _ hS.B).mono ?_; rintro e V3 ⟨rfl, bq⟩
      replace hS := hS.keep bq
      clear cc0 cc1 cc2 cc3 cc4 cc5 cc6 cc7 cc8 cc9 cc10 m0 m1 m2 m3 m4 bq
      cases d1 with
      | false =>
        go_wp2
        refine ⟨⟨1, _, _, _, _, _, _, _, _, rfl, rfl, rfl, .s1, ?_⟩, by simp [intOf]⟩
        have G1 : x + a = x1 := E1.out
        have G2 : a = a1 := F1.out
        rw [← G1, ← G2]
        exact hS
      | true =>
        obtain ⟨cc0, cc1, cc2, cc3, cc4, cc5, cc6, cc7, cc8, cc9, cc10⟩ := hS.cells
        obtain ⟨tt0, tt1, tt2, tt3, tt4, tt5, tt6, tt7, tt8, tt9, tt10⟩ := hS.P.thaw
        go_upto_region 13 with fail
        clear cc0 cc1 cc2 cc3 cc4 cc5 cc6 cc7 cc8 cc9 cc10 tt0 tt1 tt2 tt3 tt4 tt5 tt6 tt7 tt8 tt9 tt10
        replace hS := hS.p0 x
        generalize V3.setCell ⟨mb + 1, 3, none⟩ (.int .i64 x) = V4 at *
        obtain ⟨cc0, cc1, cc2, cc3, cc4, cc5, cc6, cc7, cc8, cc9, cc10⟩ := hS.cells
        obtain ⟨tt0, tt1, tt2, tt3, tt4, tt5, tt6, tt7, tt8, tt9, tt10⟩ := hS.P.thaw
        obtain ⟨n0, n1, n2⟩ := hS.N.cells
        have w1 := HW.out.1.1
        go_upto_region 14 with (go_region)
        clear cc0 cc1 cc2 cc3 cc4 cc5 cc6 cc7 cc8 cc9 cc10 tt0 tt1 tt2 tt3 tt4 tt5 tt6 tt7 tt8 tt9 tt10 n0 n1 n2 w1
        replace hS := (hS.v0 (wrap64 (-(a.tdiv 2)))).keep (Below.refl _ _).drew
        generalize (V4.setCell ⟨mb + 1, 6, none⟩ (.int .i64 (wrap64 (-(a.tdiv 2))))).drew = V5 at *
        go_wp2
        refine ⟨⟨1, _, _, _, _, _, _, _, _, rfl, rfl, rfl, .s1, ?_⟩, by simp [intOf]⟩
        have G1 : x = x1 := E1.out
        have G2 : wrap64 (-(a.tdiv 2)) = a1 := HW.out.1.2.trans F1.out
        rw [← G1, ← G2]
        exact hS
    | s1 =>
      obtain ⟨cc0, cc1, cc2, cc3, cc4, cc5, cc6, cc7, cc8, cc9, cc10⟩ := hS.cells
      obtain ⟨n0, n1, n2⟩ := hS.N.cells
      go_wp2_with fail
      refine (HA2.out _).mono ?_; rintro e V1 ⟨rfl, hv⟩
      replace hv := hv.symm; subst hv
      obtain ⟨tt0, tt1, tt2, tt3, tt4, tt5, tt6, tt7, tt8, tt9, tt10⟩ := hS.P.thaw
      go_upto_region 10 with fail
      clear cc0 cc1 cc2 cc3 cc4 cc5 cc6 cc7 cc8 cc9 cc10 tt0 tt1 tt2 tt3 tt4 tt5 tt6 tt7 tt8 tt9 tt10 n0 n1 n2
      replace hS := hS.p1 (y + b)
      generalize wr.setCell ⟨mb + 1, 4, none⟩ (.int .i64 (y + b)) = V2 at *
      obtain ⟨cc0, cc1, cc2, cc3, cc4, cc5, cc6, cc7, cc8, cc9, cc10⟩ := hS.cells
      obtain ⟨m0, m1, m2, m3, m4⟩ := hS.O.cells
      go_wp2_with fail
      refine (HS2.out _ hS.B).mono ?_; rintro e V3 ⟨rfl, bq⟩
      replace hS := hS.keep bq
      clear cc0 cc1 cc2 cc3 cc4 cc5 cc6 cc7 cc8 cc9 cc10 m0 m1 m2 m3 m4 bq
      cases d2 with
      | false =>
        go_wp2
        refine ⟨⟨2, _, _, _, _, _, _, _, _, rfl, rfl, rfl, .s2, ?_⟩, by simp [intOf]⟩
        have G1 : y + b = y1 := E2.out
        have G2 : b = b1 := F2.out
        rw [← G1, ← G2]
        exact hS
      | true =>
        obtain ⟨cc0, cc1, cc2, cc3, cc4, cc5, cc6, cc7, cc8, cc9, cc10⟩ := hS.cells
        obtain ⟨tt0, tt1, tt2, tt3, tt4, tt5, tt6, tt7, tt8, tt9, tt10⟩ := hS.P.thaw
        go_upto_region 13 with fail
        clear cc0 cc1 cc2 cc3 cc4 cc5 cc6 cc7 cc8 cc9 cc10 tt0 tt1 tt2 tt3 tt4 tt5 tt6 tt7 tt8 tt9 tt10
        replace hS := hS.p1 y
        generalize V3.setCell ⟨mb + 1, 4, none⟩ (.int .i64 y) = V4 at *
        obtain ⟨cc0, cc1, cc2, cc3, cc4, cc5, cc6, cc7, cc8, cc9, cc10⟩ := hS.cells
        obtain ⟨tt0, tt1, tt2, tt3, tt4, tt5, tt6, tt7, tt8, tt9, tt10⟩ := hS.P.thaw
        obtain ⟨n0, n1, n2⟩ := hS.N.cells
        have w1 := HW.out.2.1.1
        go_upto_region 14 with (go_region)
        clear cc0 cc1 cc2 cc3 cc4 cc5 cc6 cc7 cc8 cc9 cc10 tt0 tt1 tt2 tt3 tt4 tt5 tt6 tt7 tt8 tt9 tt10 n0 n1 n2 w1
        replace hS := (hS.v1 (wrap64 (-(b.tdiv 2)))).keep (Below.refl _ _).drew
        generalize (V4.setCell ⟨mb + 1, 7, none⟩ (.int .i64 (wrap64 (-(b.tdiv 2))))).drew = V5 at *
        go_wp2
        refine ⟨⟨2, _, _, _, _, _, _, _, _, rfl, rfl, rfl, .s2, ?_⟩, by simp [intOf]⟩
        have G1 : y = y1 := E2.out
        have G2 : wrap64 (-(b.tdiv 2)) = b1 := HW.out.2.1.2.trans F2.out
        rw [← G1, ← G2]
        exact hS
    | s2 =>
      obtain ⟨cc0, cc1, cc2, cc3, cc4, cc5, cc6, cc7, cc8, cc9, cc10⟩ := hS.cells
      obtain ⟨n0, n1, n2⟩ := hS.N.cells
      go_wp2_with fail
      refine (HA3.out _).mono ?_; rintro e V1 ⟨rfl, hv⟩
      replace hv := hv.symm; subst hv
      obtain ⟨tt0, tt1, tt2, tt3, tt4, tt5, tt6, tt7, tt8, tt9, tt10⟩ := hS.P.thaw
      go_upto_region 10 with fail
      clear cc0 cc1 cc2 cc3 cc4 cc5 cc6 cc7 cc8 cc9 cc10 tt0 tt1 tt2 tt3 tt4 tt5 tt6 tt7 tt8 tt9 tt10 n0 n1 n2
      replace hS := hS.p2 (z + c)
      generalize wr.setCell ⟨mb + 1, 5, none⟩ (.int .i64 (z + c)) = V2 at *
      obtain ⟨cc0, cc1, cc2, cc3, cc4, cc5, cc6, cc7, cc8, cc9, cc10⟩ := hS.cells
      obtain ⟨m0, m1, m2, m3, m4⟩ := hS.O.cells
      go_wp2_with fail
      refine (HS3.out _ hS.B).mono ?_; rintro e V3 ⟨rfl, bq⟩
      replace hS := hS.keep bq
      clear cc0 cc1 cc2 cc3 cc4 cc5 cc6 cc7 cc8 cc9 cc10 m0 m1 m2 m3 m4 bq
      cases d3 with
      | false =>
        go_wp2
        refine ⟨⟨3, _, _, _, _, _, _, _, _, rfl, rfl, rfl, .s3, ?_⟩, by simp [intOf]⟩
        have G1 : z + c = z1 := E3.out
        have G2 : c = c1 := F3.out
        rw [← G1, ← G2]
        exact hS
      | true =>
        obtain ⟨cc0, cc1, cc2, cc3, cc4, cc5, cc6, cc7, cc8, cc9, cc10⟩ := hS.cells
        obtain ⟨tt0, tt1, tt2, tt3, tt4, tt5, tt6, tt7, tt8, tt9, tt10⟩ := hS.P.thaw
        go_upto_region 13 with fail
        clear cc0 cc1 cc2 cc3 cc4 cc5 cc6 cc7 cc8 cc9 cc10 tt0 tt1 tt2 tt3 tt4 tt5 tt6 tt7 tt8 tt9 tt10
        replace hS := hS.p2 z
        generalize V3.setCell ⟨mb + 1, 5, none⟩ (.int .i64 z) = V4 at *
        obtain ⟨cc0, cc1, cc2, cc3, cc4, cc5, cc6, cc7, cc8, cc9, cc10⟩ := hS.cells
        obtain ⟨tt0, tt1, tt2, tt3, tt4, tt5, tt6, tt7, tt8, tt9, tt10⟩ := hS.P.thaw
        obtain ⟨n0, n1, n2⟩ := hS.N.cells
        have w1 := HW.out.2.2.1
        go_upto_region 14 with (go_region)
        clear cc0 cc1 cc2 cc3 cc4 cc5 cc6 cc7 cc8 cc9 cc10 tt0 tt1 tt2 tt3 tt4 tt5 tt6 tt7 tt8 tt9 tt10 n0 n1 n2 w1
        replace hS := (hS.v2 (wrap64 (-(c.tdiv 2)))).keep (Below.refl _ _).drew
        generalize (V4.setCell ⟨mb + 1, 8, none⟩ (.int .i64 (wrap64 (-(c.tdiv 2))))).drew = V5 at *
        go_wp2
        refine ⟨⟨3, _, _, _, _, _, _, _, _, rfl, rfl, rfl, .s3, ?_⟩, by simp [intOf]⟩
        have G1 : z = z1 := E3.out
        have G2 : wrap64 (-(c.tdiv 2)) = c1 := HW.out.2.2.2.trans F3.out
        rw [← G1, ← G2]
        exact hS
    | s3 =>
      clear HS1 HS2 HS3 HA1 HA2 HA3 HW E1 E2 E3 F1 F2 F3 ei0 ei1 ei2
      go_upto_region 15 with fail
      go_cut [76] from 65 to 75 (fun v wx => ∃ V, v = .bool rr ∧ wx = V ∧ BnSt w (V) mb kb W D H mp mn mc sp sn sc i o k f r x1 y1 z1 a1 b1 c1)
      case first =>
        obtain ⟨cc0, cc1, cc2, cc3, cc4, cc5, cc6, cc7, cc8, cc9, cc10⟩ := hS.cells
        cases fl with
        | false =>
          have er : rr = false := by rw [← HRR.out]; simp
          clear HRR
          subst er
          go_region
          go_wp2
          go_meet
          exact ⟨_, rfl, rfl, hS.keep (Below.refl _ _).drew⟩
        | true =>
          cases d3 with
          | false =>
            have er : rr = false := by rw [← HRR.out]; simp
            clear HRR
            subst er
            go_region
            go_wp2
            go_meet
            exact ⟨_, rfl, rfl, hS.keep (Below.refl _ _).drew⟩
          | true =>
            have er : (a1 == fclamp a1 2047 && b1 == fclamp b1 2047 && c1 == fclamp c1 2047) = rr := by rw [← HRR.out, fclamp_slw, fclamp_slw, fclamp_slw]; simp
            have EQ := eqV a1 b1 c1 (fclamp a1 2047) (fclamp b1 2047) (fclamp c1 2047)
            rw [er] at EQ
            clear HRR er
            obtain ⟨A, eA⟩ : ∃ n, fclamp a1 2047 = n := ⟨_, rfl⟩
            obtain ⟨B, eB⟩ : ∃ n, fclamp b1 2047 = n := ⟨_, rfl⟩
            obtain ⟨C, eC⟩ : ∃ n, fclamp c1 2047 = n := ⟨_, rfl⟩
            rw [eA, eB, eC] at EQ
            rw [eA, eB, eC] at HC2
            clear eA eB eC
            go_region_with ((go_at_call 21; refine (HC2.out _).mono ?_; rintro e VC ⟨rfl, bq⟩; have hS := hS.keep (bdrew bq); obtain ⟨q0, q1, q2, q3, q4, q5, q6, q7, q8, q9, q10⟩ := hS.cells))
            all_goals (go_wp2; go_meet; exact ⟨_, rfl, rfl, hS⟩)
      case rest =>
        obtain ⟨V8, rfl, eV8, hS⟩ := hcut
        replace eV8 := eV8.symm
        subst eV8
        clear HC2 HFL HRR
        have hq := hq.out
        cases rr with
        | false =>
          replace hq : (⟨i, o, k, x1, y1, z1, a1, b1, c1, f, r⟩ : Sh) = q := hq
          subst hq
          obtain ⟨hwm, lZ, O, P, Z, N, HB⟩ := hS
          go_wp2_with (first | (refine wpList_ldS (by rfl) _ rfl _ _ rfl (by assumption) ?_) | (refine wpList_stS (by rfl) _ _ rfl _ _ (⟨i, o, k, x1, y1, z1, a1, b1, c1, f, r⟩) rfl rfl (by assumption) (fun V9 hN hF => ?_)))
          replace O := O.fr hF (show ¬ (mb = mb + 1 + 1) by omega)
          replace P := P.fr hF (show ¬ (mb + 1 = mb + 1 + 1) by omega)
          replace Z := hN
          replace N := N.fr hF (show ¬ (kb = mb + 1 + 1) by omega)
          replace HB := below_fr HB hF (Nat.le_refl _) (by intro k hk; replace hk : k = mb + 1 + 1 := hk; omega)
          clear hN hF
          obtain ⟨cZ0, cZ1, cZ2, cZ3, cZ4, cZ5, cZ6, cZ7, cZ8, cZ9, cZ10⟩ := Z.cells
          try dsimp only at cZ0 cZ1 cZ2 cZ3 cZ4 cZ5 cZ6 cZ7 cZ8 cZ9 cZ10
          refine bodyPost_ret (v := .agg #[.int .i64 i, .int .i64 o, .int .i64 k, .int .i64 x1, .int .i64 y1, .int .i64 z1, .int .i64 a1, .int .i64 b1, .int .i64 c1, .int .i64 f, .bool r]) ?_ rfl ⟨rfl, HB⟩
          simp [results, Try.results25, go_sem, cZ0, cZ1, cZ2, cZ3, cZ4, cZ5, cZ6, cZ7, cZ8, cZ9, cZ10]
        | true =>
          replace hq : (⟨i, o, k, x1, y1, z1, 0, 0, 0, f, true⟩ : Sh) = q := hq
          subst hq
          obtain ⟨hwm, lZ, O, P, Z, N, HB⟩ := hS
          obtain ⟨cP0, cP1, cP2, cP3, cP4, cP5, cP6, cP7, cP8, cP9, cP10⟩ := P.cells
          try dsimp only at cP0 cP1 cP2 cP3 cP4 cP5 cP6 cP7 cP8 cP9 cP10
          obtain ⟨tP0, tP1, tP2, tP3, tP4, tP5, tP6, tP7, tP8, tP9, tP10⟩ := P.thaw
          go_upto_region 17 with fail
          clear cP0 cP1 cP2 cP3 cP4 cP5 cP6 cP7 cP8 cP9 cP10 tP0 tP1 tP2 tP3 tP4 tP5 tP6 tP7 tP8 tP9 tP10
          replace O := O.fr (fr1 _ (mb + 1) 10 (.bool true)) (show ¬ (mb = mb + 1) by omega)
          replace P := P.s10 true
          replace Z := Z.fr (fr1 _ (mb + 1) 10 (.bool true)) (show ¬ (mb + 1 + 1 = mb + 1) by omega)
          replace N := N.fr (fr1 _ (mb + 1) 10 (.bool true)) (show ¬ (kb = mb + 1) by omega)
          replace HB := below_fr HB (fr1 _ (mb + 1) 10 (.bool true)) (Nat.le_refl _) (by intro k hk; replace hk : k = mb + 1 := hk; omega)
          generalize V8.setCell ⟨mb + 1, 10, none⟩ (.bool true) = V1 at *
          replace O := O.fr (fr3 _ (mb + 1) 6 7 8 (.int .i64 0) (.int .i64 0) (.int .i64 0)) (show ¬ (mb = mb + 1) by omega)
          replace P := P.vel 0 0 0
          replace Z := Z.fr (fr3 _ (mb + 1) 6 7 8 (.int .i64 0) (.int .i64 0) (.int .i64 0)) (show ¬ (mb + 1 + 1 = mb + 1) by omega)
          replace N := N.fr (fr3 _ (mb + 1) 6 7 8 (.int .i64 0) (.int .i64 0) (.int .i64 0)) (show ¬ (kb = mb + 1) by omega)
          replace HB := below_fr HB (fr3 _ (mb + 1) 6 7 8 (.int .i64 0) (.int .i64 0) (.int .i64 0)) (Nat.le_refl _) (by intro k hk; replace hk : k = mb + 1 := hk; omega)
          generalize ((V1.setCell ⟨mb + 1, 6, none⟩ (.int .i64 0)).setCell ⟨mb + 1, 7, none⟩ (.int .i64 0)).setCell ⟨mb + 1, 8, none⟩ (.int .i64 0) = V2 at *
          replace P : ShAt V2 (mb + 1) ⟨i, o, k, x1, y1, z1, 0, 0, 0, f, true⟩ := P
          go_wp2_with (first | (refine wpList_ldS (by rfl) _ rfl _ _ rfl (by assumption) ?_) | (refine wpList_stS (by rfl) _ _ rfl _ _ (⟨i, o, k, x1, y1, z1, 0, 0, 0, f, true⟩) rfl rfl (by assumption) (fun V9 hN hF => ?_)))
          replace O := O.fr hF (show ¬ (mb = mb + 1 + 1) by omega)
          replace P := P.fr hF (show ¬ (mb + 1 = mb + 1 + 1) by omega)
          replace Z := hN
          replace N := N.fr hF (show ¬ (kb = mb + 1 + 1) by omega)
          replace HB := below_fr HB hF (Nat.le_refl _) (by intro k hk; replace hk : k = mb + 1 + 1 := hk; omega)
          clear hN hF
          obtain ⟨cZ0, cZ1, cZ2, cZ3, cZ4, cZ5, cZ6, cZ7, cZ8, cZ9, cZ10⟩ := Z.cells
          try dsimp only at cZ0 cZ1 cZ2 cZ3 cZ4 cZ5 cZ6 cZ7 cZ8 cZ9 cZ10
          refine bodyPost_ret (v := .agg #[.int .i64 i, .int .i64 o, .int .i64 k, .int .i64 x1, .int .i64 y1, .int .i64 z1, .int .i64 0, .int .i64 0, .int .i64 0, .int .i64 f, .bool true]) ?_ rfl ⟨rfl, HB⟩
          simp [results, Try.results25, go_sem, cZ0, cZ1, cZ2, cZ3, cZ4, cZ5, cZ6, cZ7, cZ8, cZ9, cZ10]
end Go.Proofs.Ythcmcjklhcfenaa
