/- Layer 9 (grid): the walk of the law GridFree. -/
import Derived.Test.YtfcaekboonnmaaaGwJ
namespace Go.Proofs.Ytfcaekboonnmaaa
open Go.RowKit
set_option linter.unusedVariables false
set_option linter.unusedSimpArgs false
attribute [local go_sem ↓] Go.wp_at_zero Go.wp_at_succ

set_option maxRecDepth 100000 in
set_option maxHeartbeats 4000000 in
theorem gridFree_walk (p : Int) (q : Int) (r : Int) (a1 a2 a3 : Int) (b1 b2 b3 : Int) (w : World) (hp : I64 p) (hq : I64 q) (hr : I64 r) (ha1 : I64 a1) (ha2 : I64 a2) (ha3 : I64 a3) (hb1 : I64 b1) (hb2 : I64 b2) (hb3 : I64 b3) :
    Calls Try.prog 8 #[.int .i64 p, .int .i64 q, .int .i64 r, .agg #[.int .i64 a1, .int .i64 a2, .int .i64 a3], .agg #[.int .i64 b1, .int .i64 b2, .int .i64 b3]] w fun e w' => e = .returned (.bool true) ∧ Below w.heap.size w w' := by
  obtain ⟨u, hu, hub⟩ := mask (m := 7) (x := p) (k := 3) rfl (by omega)
  obtain ⟨v, hv, hvb⟩ := mask (m := 7) (x := q) (k := 3) rfl (by omega)
  obtain ⟨z, hz, hzb⟩ := mask (m := 7) (x := r) (k := 3) rfl (by omega)
  obtain ⟨W, hW⟩ : ∃ W : Int, 1 + (u : Int) = W := ⟨_, rfl⟩
  obtain ⟨D, hD⟩ : ∃ W : Int, 1 + (v : Int) = W := ⟨_, rfl⟩
  obtain ⟨H, hH⟩ : ∃ W : Int, 1 + (z : Int) = W := ⟨_, rfl⟩
  have w1 : 1 ≤ W ∧ W ≤ 8 := by omega
  have d1 : 1 ≤ D ∧ D ≤ 8 := by omega
  have h1 : 1 ≤ H ∧ H ≤ 8 := by omega
  obtain ⟨_, ⟨n1, n2⟩, e1, e2⟩ := sized_mul (W := W) (D := D) (H := H) ⟨by omega, by omega⟩ ⟨by omega, by omega⟩ ⟨by omega, by omega⟩
  obtain ⟨n, hn⟩ : ∃ n : Nat, W * D * H = (n : Int) := ⟨(W * D * H).toNat, by omega⟩
  have hsz : (mpOf W D H n (fun _ => false)).Sized := ⟨by dsimp only [mpOf]; omega, by dsimp only [mpOf]; omega, by dsimp only [mpOf]; omega, by dsimp only [mpOf]; omega, by dsimp only [mpOf]; omega, by dsimp only [mpOf]; omega, by dsimp only [mpOf]; omega⟩
  have hop := fun V => lawOpen W D H n ⟨by omega, by omega⟩ ⟨by omega, by omega⟩ ⟨by omega, by omega⟩ e1 (by rw [e2, hn]) (by omega) V
  have hse := Mp.open_sees hsz (fun _ _ => rfl) (a := ⟨a1, a2, a3⟩) (b := ⟨b1, b2, b3⟩)
  have hcl := Mp.open_clear hsz (fun _ _ => rfl) (a := ⟨a1, a2, a3⟩) (b := ⟨b1, b2, b3⟩)
  dsimp only [mpOf] at hse hcl
  have hn32 : n ≤ 32768 := by omega
  have HSE := hid hse; have HCL := hid hcl; have HOP := hid hop
  obtain ⟨w1, w2⟩ := w1; obtain ⟨d1, d2⟩ := d1; obtain ⟨h1, h2⟩ := h1
  clear hse hcl hop e1 e2 hn n1 n2 hsz
  have hsh := lawShown
  have hmn := fun ts t V => min6 (a := a1) (b := a2) (c := a3) (d := b1) (e := b2) (f := b3) ts t V
  have hmn3 := fun ts t V => min3 (a := a1) (b := a2) (c := a3) ts t V
  have hx1 := fun ts t V => max2 (a := a1) (b := b1) ts t V
  have hx2 := fun ts t V => max2 (a := a2) (b := b2) ts t V
  have hx3 := fun ts t V => max2 (a := a3) (b := b3) ts t V
  obtain ⟨mn, ge⟩ : ∃ p, min (min (min (min (min a1 a2) a3) b1) b2) b3 = p := ⟨_, rfl⟩
  obtain ⟨mo, go⟩ : ∃ p, min (min a1 a2) a3 = p := ⟨_, rfl⟩
  obtain ⟨x1, g1⟩ : ∃ p, max a1 b1 = p := ⟨_, rfl⟩
  obtain ⟨x2, g2⟩ : ∃ p, max a2 b2 = p := ⟨_, rfl⟩
  obtain ⟨x3, g3⟩ : ∃ p, max a3 b3 = p := ⟨_, rfl⟩
  rw [ge] at hmn
  rw [go] at hmn3
  rw [g1] at hx1
  rw [g2] at hx2
  rw [g3] at hx3
  have GE := hid ge; have GO := hid go; have G1 := hid g1; have G2 := hid g2; have G3 := hid g3
  clear ge go g1 g2 g3
  have B0 : Below w.heap.size w ((w.alloc (.cells #[.int .i64 a1, .int .i64 a2, .int .i64 a3] 27)).alloc (.cells #[.int .i64 b1, .int .i64 b2, .int .i64 b3] 27)) := ((Below.refl _ _).alloc (Nat.le_refl _) _).alloc (by simp) _
  have a0 : B3 ((w.alloc (.cells #[.int .i64 a1, .int .i64 a2, .int .i64 a3] 27)).alloc (.cells #[.int .i64 b1, .int .i64 b2, .int .i64 b3] 27)) w.heap.size 27 a1 a2 a3 := (B3.new _ _ _ _ _).alloc _
  have b0 : B3 ((w.alloc (.cells #[.int .i64 a1, .int .i64 a2, .int .i64 a3] 27)).alloc (.cells #[.int .i64 b1, .int .i64 b2, .int .i64 b3] 27)) (w.heap.size + 1) 27 b1 b2 b3 := B3.new' _ _ _ _ _ (by simp)
  go_enter Try.func8, Try.ntmps8
  go_wp2_with fail
  refine (hsh _).mono ?_; rintro e V1 ⟨rfl, q⟩
  have aq := a0.keep q
  have bq := b0.keep q
  have HB := hid (B0.trans (q.mono B0.size))
  clear q hsh B0 a0 b0
  go_wp2_with fail
  refine (HOP.out _).mono ?_; rintro e V2 ⟨⟨g, hwg, ho, rfl⟩, q⟩
  have BS0 : Bs V2 g n n (fun _ => false) := ⟨Nat.le_refl _, by unfold maxLen; omega, _, ho, fun i hi => by simp [madeCells, hi, Nat.mod_one]⟩
  have a2' := (aq.keep q).alloc (.cells #[.int .i64 W, .int .i64 D, .int .i64 H, .slice (some ⟨g, 0, none⟩) n n, .slice none 0 0] 25)
  have b2' := (bq.keep q).alloc (.cells #[.int .i64 W, .int .i64 D, .int .i64 H, .slice (some ⟨g, 0, none⟩) n n, .slice none 0 0] 25)
  have BS := BS0.keep ((Below.refl V2.heap.size V2).alloc (Nat.le_refl _) (.cells #[.int .i64 W, .int .i64 D, .int .i64 H, .slice (some ⟨g, 0, none⟩) n n, .slice none 0 0] 25))
  have O3 := O5.new V2 (.int .i64 W) (.int .i64 D) (.int .i64 H) (.slice (some ⟨g, 0, none⟩) n n) (.slice none 0 0)
  have HB2 := (btrans HB.out q).alloc (btrans HB.out q).size (.cells #[.int .i64 W, .int .i64 D, .int .i64 H, .slice (some ⟨g, 0, none⟩) n n, .slice none 0 0] 25)
  clear q aq bq HB BS0 ho hwg HOP
  go_upto_region 6 with fail
  obtain ⟨mb, hmb⟩ : ∃ b, V2.heap.size = b := ⟨_, rfl⟩
  rw [hmb] at O3
  try simp only [hmb]
  generalize V2.alloc (.cells #[.int .i64 W, .int .i64 D, .int .i64 H, .slice (some ⟨g, 0, none⟩) n n, .slice none 0 0] 25) = U at *
  clear hmb
  have HB := hid HB2
  clear HB2
  obtain ⟨m0, m1, m2, m3, m4⟩ := O3.cells
  obtain ⟨ca0, ca1, ca2⟩ := a2'.cells
  obtain ⟨cb0, cb1, cb2⟩ := b2'.cells
  go_cut [13] from 30 to 73 (fun c wx => ∃ b : Bool, c = .bool b ∧ b = decide (0 ≤ mn ∧ x1 < W * 65536 ∧ x2 < D * 65536 ∧ x3 < H * 65536) ∧ wx = U)
  case first =>
    by_cases k1 : 0 ≤ mn
    case neg =>
      go_wp2
      go_meet
      exact ⟨false, rfl, (decide_eq_false (p := 0 ≤ mn ∧ x1 < W * 65536 ∧ x2 < D * 65536 ∧ x3 < H * 65536) (by omega)).symm, rfl⟩
    by_cases k2 : x1 < W * 65536
    case neg =>
      go_wp2
      go_meet
      exact ⟨false, rfl, (decide_eq_false (p := 0 ≤ mn ∧ x1 < W * 65536 ∧ x2 < D * 65536 ∧ x3 < H * 65536) (by omega)).symm, rfl⟩
    by_cases k3 : x2 < D * 65536
    case neg =>
      go_wp2
      go_meet
      exact ⟨false, rfl, (decide_eq_false (p := 0 ≤ mn ∧ x1 < W * 65536 ∧ x2 < D * 65536 ∧ x3 < H * 65536) (by omega)).symm, rfl⟩
    by_cases k4 : x3 < H * 65536
    case neg =>
      go_wp2
      go_meet
      exact ⟨false, rfl, (decide_eq_false (p := 0 ≤ mn ∧ x1 < W * 65536 ∧ x2 < D * 65536 ∧ x3 < H * 65536) (by omega)).symm, rfl⟩
    go_wp2
    go_meet
    exact ⟨true, rfl, (decide_eq_true (p := 0 ≤ mn ∧ x1 < W * 65536 ∧ x2 < D * 65536 ∧ x3 < H * 65536) (by omega)).symm, rfl⟩
  case rest =>
  obtain ⟨bb13, rfl, hbb13, hwc⟩ := hcut
  replace hbb13 := hid hbb13
  have hwc' := hwc.symm
  subst hwc'
  go_upto_region 7 with fail
  go_cut [14] from 74 to 92 (fun c wx => ∃ b : Bool, c = .bool b ∧ b = decide (b1 ≤ a1 ∨ b2 ≤ a2 ∨ b3 ≤ a3) ∧ wx = U)
  case first =>
    by_cases k10 : b1 ≤ a1
    case pos =>
      go_wp2
      go_meet
      exact ⟨true, rfl, (decide_eq_true (p := b1 ≤ a1 ∨ b2 ≤ a2 ∨ b3 ≤ a3) (by omega)).symm, rfl⟩
    by_cases k11 : b2 ≤ a2
    case pos =>
      go_wp2
      go_meet
      exact ⟨true, rfl, (decide_eq_true (p := b1 ≤ a1 ∨ b2 ≤ a2 ∨ b3 ≤ a3) (by omega)).symm, rfl⟩
    by_cases k12 : b3 ≤ a3
    case pos =>
      go_wp2
      go_meet
      exact ⟨true, rfl, (decide_eq_true (p := b1 ≤ a1 ∨ b2 ≤ a2 ∨ b3 ≤ a3) (by omega)).symm, rfl⟩
    go_wp2
    go_meet
    exact ⟨false, rfl, (decide_eq_false (p := b1 ≤ a1 ∨ b2 ≤ a2 ∨ b3 ≤ a3) (by omega)).symm, rfl⟩
  case rest =>
  obtain ⟨bb14, rfl, hbb14, hwc⟩ := hcut
  replace hbb14 := hid hbb14
  have hwc' := hwc.symm
  subst hwc'
  go_upto_region 8 with fail
  go_cut [15] from 93 to 121 (fun c wx => ∃ b : Bool, c = .bool b ∧ b = decide (0 ≤ mo ∧ b1 ≤ W * 65536 ∧ b2 ≤ D * 65536 ∧ b3 ≤ H * 65536) ∧ wx = U)
  case first =>
    by_cases k20 : 0 ≤ mo
    case neg =>
      go_wp2
      go_meet
      exact ⟨false, rfl, (decide_eq_false (p := 0 ≤ mo ∧ b1 ≤ W * 65536 ∧ b2 ≤ D * 65536 ∧ b3 ≤ H * 65536) (by omega)).symm, rfl⟩
    by_cases k21 : b1 ≤ W * 65536
    case neg =>
      go_wp2
      go_meet
      exact ⟨false, rfl, (decide_eq_false (p := 0 ≤ mo ∧ b1 ≤ W * 65536 ∧ b2 ≤ D * 65536 ∧ b3 ≤ H * 65536) (by omega)).symm, rfl⟩
    by_cases k22 : b2 ≤ D * 65536
    case neg =>
      go_wp2
      go_meet
      exact ⟨false, rfl, (decide_eq_false (p := 0 ≤ mo ∧ b1 ≤ W * 65536 ∧ b2 ≤ D * 65536 ∧ b3 ≤ H * 65536) (by omega)).symm, rfl⟩
    by_cases k23 : b3 ≤ H * 65536
    case neg =>
      go_wp2
      go_meet
      exact ⟨false, rfl, (decide_eq_false (p := 0 ≤ mo ∧ b1 ≤ W * 65536 ∧ b2 ≤ D * 65536 ∧ b3 ≤ H * 65536) (by omega)).symm, rfl⟩
    go_wp2
    go_meet
    exact ⟨true, rfl, (decide_eq_true (p := 0 ≤ mo ∧ b1 ≤ W * 65536 ∧ b2 ≤ D * 65536 ∧ b3 ≤ H * 65536) (by omega)).symm, rfl⟩
  case rest =>
  obtain ⟨bb15, rfl, hbb15, hwc⟩ := hcut
  replace hbb15 := hid hbb15
  have hwc' := hwc.symm
  subst hwc'
  have i1 := hid (show bb13 = true ↔ (mpOf W D H n (fun _ => false)).Sees ⟨a1, a2, a3⟩ ⟨b1, b2, b3⟩ by
    rw [hbb13.out, decide_eq_true_iff]
    refine Iff.trans ?_ HSE.out.symm
    have := GE.out; have := G1.out; have := G2.out; have := G3.out
    omega)
  have i2 := hid (show (bb14 || bb15) = true ↔ (mpOf W D H n (fun _ => false)).Clear ⟨a1, a2, a3⟩ ⟨b1, b2, b3⟩ by
    rw [hbb14.out, hbb15.out, Bool.or_eq_true, decide_eq_true_iff, decide_eq_true_iff]
    refine Iff.trans ?_ HCL.out.symm
    have := GO.out
    omega)
  clear hbb13 hbb14 hbb15 HSE HCL GE GO G1 G2 G3 hmn hmn3 hx1 hx2 hx3
  go_upto_region 9 with fail
  have r0 := stays m0
  have r1 := stays m1
  have r2 := stays m2
  have r3 := stays m3
  have r4 := stays m4
  have ra0 := stays ca0
  have ra1 := stays ca1
  have ra2 := stays ca2
  have rb0 := stays cb0
  have rb1 := stays cb1
  have rb2 := stays cb2
  obtain ⟨cl, hcl⟩ : ∃ c, (bb14 || bb15) = c := ⟨_, rfl⟩
  have HCLB := hid hcl
  rw [hcl] at i2
  clear hcl
  have I1 := Tells.mk i1.out
  have I2 := Tells.mk i2.out
  clear i1 i2
  have k1 := hid (fun V (hV : Below U.heap.size U V) => gridSight W D H (some ⟨g, 0, none⟩) n n (fun _ => false) none 0 0 a1 a2 a3 b1 b2 b3 ha1 ha2 ha3 hb1 hb2 hb3 V ((BS.keep hV).arg) bb13 I1.iff)
  have k2 := hid (fun V (hV : Below U.heap.size U V) => gridClear W D H (some ⟨g, 0, none⟩) n n (fun _ => false) none 0 0 a1 a2 a3 b1 b2 b3 ha1 ha2 ha3 hb1 hb2 hb3 V ((BS.keep hV).arg) cl I2.iff)
  clear I1 I2 O3 a2' b2' BS
  cases bb13 with
  | true =>
    cases bb14 with
    | true =>
      obtain rfl : cl = true := HCLB.out.symm.trans (by simp)
      go_wp2_with fail
      refine (k1.out _ (Below.refl _ _)).mono ?_; rintro e V3 ⟨rfl, q1⟩
      have n0 := r0 _ q1
      have n1 := r1 _ q1
      have n2 := r2 _ q1
      have n3 := r3 _ q1
      have n4 := r4 _ q1
      have na0 := ra0 _ q1
      have na1 := ra1 _ q1
      have na2 := ra2 _ q1
      have nb0 := rb0 _ q1
      have nb1 := rb1 _ q1
      have nb2 := rb2 _ q1
      go_wp2_with fail
      refine (k2.out _ q1).mono ?_; rintro e V4 ⟨rfl, q2⟩
      go_wp2
      go_ret
      exact ⟨rfl, btrans HB.out (btrans q1 q2)⟩
    | false =>
      cases bb15 with
      | true =>
        obtain rfl : cl = true := HCLB.out.symm.trans (by simp)
        go_wp2_with fail
        refine (k1.out _ (Below.refl _ _)).mono ?_; rintro e V3 ⟨rfl, q1⟩
        have n0 := r0 _ q1
        have n1 := r1 _ q1
        have n2 := r2 _ q1
        have n3 := r3 _ q1
        have n4 := r4 _ q1
        have na0 := ra0 _ q1
        have na1 := ra1 _ q1
        have na2 := ra2 _ q1
        have nb0 := rb0 _ q1
        have nb1 := rb1 _ q1
        have nb2 := rb2 _ q1
        go_wp2_with fail
        refine (k2.out _ q1).mono ?_; rintro e V4 ⟨rfl, q2⟩
        go_wp2
        go_ret
        exact ⟨rfl, btrans HB.out (btrans q1 q2)⟩
      | false =>
        obtain rfl : cl = false := HCLB.out.symm.trans (by simp)
        go_wp2_with fail
        refine (k1.out _ (Below.refl _ _)).mono ?_; rintro e V3 ⟨rfl, q1⟩
        have n0 := r0 _ q1
        have n1 := r1 _ q1
        have n2 := r2 _ q1
        have n3 := r3 _ q1
        have n4 := r4 _ q1
        have na0 := ra0 _ q1
        have na1 := ra1 _ q1
        have na2 := ra2 _ q1
        have nb0 := rb0 _ q1
        have nb1 := rb1 _ q1
        have nb2 := rb2 _ q1
        go_wp2_with fail
        refine (k2.out _ q1).mono ?_; rintro e V4 ⟨rfl, q2⟩
        go_wp2
        go_ret
        exact ⟨rfl, btrans HB.out (btrans q1 q2)⟩
  | false =>
    cases bb14 with
    | true =>
      obtain rfl : cl = true := HCLB.out.symm.trans (by simp)
      go_wp2_with fail
      refine (k1.out _ (Below.refl _ _)).mono ?_; rintro e V3 ⟨rfl, q1⟩
      have n0 := r0 _ q1
      have n1 := r1 _ q1
      have n2 := r2 _ q1
      have n3 := r3 _ q1
      have n4 := r4 _ q1
      have na0 := ra0 _ q1
      have na1 := ra1 _ q1
      have na2 := ra2 _ q1
      have nb0 := rb0 _ q1
      have nb1 := rb1 _ q1
      have nb2 := rb2 _ q1
      go_wp2_with fail
      refine (k2.out _ q1).mono ?_; rintro e V4 ⟨rfl, q2⟩
      go_wp2
      go_ret
      exact ⟨rfl, btrans HB.out (btrans q1 q2)⟩
    | false =>
      cases bb15 with
      | true =>
        obtain rfl : cl = true := HCLB.out.symm.trans (by simp)
        go_wp2_with fail
        refine (k1.out _ (Below.refl _ _)).mono ?_; rintro e V3 ⟨rfl, q1⟩
        have n0 := r0 _ q1
        have n1 := r1 _ q1
        have n2 := r2 _ q1
        have n3 := r3 _ q1
        have n4 := r4 _ q1
        have na0 := ra0 _ q1
        have na1 := ra1 _ q1
        have na2 := ra2 _ q1
        have nb0 := rb0 _ q1
        have nb1 := rb1 _ q1
        have nb2 := rb2 _ q1
        go_wp2_with fail
        refine (k2.out _ q1).mono ?_; rintro e V4 ⟨rfl, q2⟩
        go_wp2
        go_ret
        exact ⟨rfl, btrans HB.out (btrans q1 q2)⟩
      | false =>
        obtain rfl : cl = false := HCLB.out.symm.trans (by simp)
        go_wp2_with fail
        refine (k1.out _ (Below.refl _ _)).mono ?_; rintro e V3 ⟨rfl, q1⟩
        have n0 := r0 _ q1
        have n1 := r1 _ q1
        have n2 := r2 _ q1
        have n3 := r3 _ q1
        have n4 := r4 _ q1
        have na0 := ra0 _ q1
        have na1 := ra1 _ q1
        have na2 := ra2 _ q1
        have nb0 := rb0 _ q1
        have nb1 := rb1 _ q1
        have nb2 := rb2 _ q1
        go_wp2_with fail
        refine (k2.out _ q1).mono ?_; rintro e V4 ⟨rfl, q2⟩
        go_wp2
        go_ret
        exact ⟨rfl, btrans HB.out (btrans q1 q2)⟩
end Go.Proofs.Ytfcaekboonnmaaa
