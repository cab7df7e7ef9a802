/- Layer 9 (grid): the walk of the law GridApart. -/
import Derived.Test.YtfcaekboonnmaaaGwJ
namespace Go.Proofs.Ytfcaekboonnmaaa
open Go.RowKit
set_option linter.unusedVariables false
set_option linter.unusedSimpArgs false
attribute [local go_sem ↓] Go.wp_at_zero Go.wp_at_succ

theorem right_sized {M : Mp} {n : Nat} {X Y Z : Nat → Int} (h : M.RightP n X Y Z) : M.Sized := h.1
/-- A cell by its number. -/
theorem cell_of {W D H : Int} {N kk : Nat} {f : Nat → Bool} (h : (mpOf W D H N f).Sized) (hk : kk < N) :
    ∃ x y z : Int, Int.tmod (kk : Int) W = x ∧ Int.tmod (Int.tdiv (kk : Int) W) D = y ∧ Int.tdiv (Int.tdiv (kk : Int) W) D = z ∧ (0 ≤ x ∧ x < W) ∧ (0 ≤ y ∧ y < D) ∧ (0 ≤ z ∧ z < H) ∧ (z * D + y) * W + x = (kk : Int) ∧ 1 ≤ W ∧ W ≤ 32 ∧ 1 ≤ D ∧ D ≤ 32 ∧ 1 ≤ H ∧ H ≤ 32 := by
  obtain ⟨w1, w2, d1, d2, h1, h2, hn⟩ := h
  unfold mpOf at w1 w2 d1 d2 h1 h2 hn
  dsimp only at w1 w2 d1 d2 h1 h2 hn
  have e1 : Int.tmod (kk : Int) W = (kk : Int) % W := Int.tmod_eq_emod_of_nonneg (by omega)
  have e2 : Int.tdiv (kk : Int) W = (kk : Int) / W := Int.tdiv_eq_ediv_of_nonneg (by omega)
  have q0 : 0 ≤ (kk : Int) / W := Int.ediv_nonneg (by omega) (by omega)
  have e3 : Int.tmod ((kk : Int) / W) D = (kk : Int) / W % D := Int.tmod_eq_emod_of_nonneg q0
  have e4 : Int.tdiv ((kk : Int) / W) D = (kk : Int) / W / D := Int.tdiv_eq_ediv_of_nonneg q0
  have m1 := Int.mul_ediv_add_emod (kk : Int) W
  have m2 := Int.mul_ediv_add_emod ((kk : Int) / W) D
  have r1 := Int.emod_nonneg (kk : Int) (show W ≠ 0 by omega)
  have r2 := Int.emod_lt_of_pos (kk : Int) (show 0 < W by omega)
  have r3 := Int.emod_nonneg ((kk : Int) / W) (show D ≠ 0 by omega)
  have r4 := Int.emod_lt_of_pos ((kk : Int) / W) (show 0 < D by omega)
  have z0 : 0 ≤ (kk : Int) / W / D := Int.ediv_nonneg q0 (by omega)
  have hsum : (((kk : Int) / W / D) * D + (kk : Int) / W % D) * W + (kk : Int) % W = kk := by
    have : ((kk : Int) / W / D) * D + (kk : Int) / W % D = (kk : Int) / W := by grind
    rw [this]; grind
  have zlt : (kk : Int) / W / D < H := by
    apply Int.not_le.1
    intro hle
    have b1 : H * D ≤ ((kk : Int) / W / D) * D := Int.mul_le_mul_of_nonneg_right hle (by omega)
    have b2 : H * D * W ≤ (((kk : Int) / W / D) * D + (kk : Int) / W % D) * W := Int.mul_le_mul_of_nonneg_right (by omega) (by omega)
    have b3 : H * D * W = W * D * H := by grind
    omega
  rw [e2, e3, e4, e1]
  exact ⟨_, _, _, rfl, rfl, rfl, ⟨r1, r2⟩, ⟨r3, r4⟩, ⟨z0, zlt⟩, hsum, w1, w2, d1, d2, h1, h2⟩
theorem cell_uniq {W D x y z x' y' z' : Int} (hW : 1 ≤ W) (hD : 1 ≤ D) (hx : 0 ≤ x ∧ x < W) (hy : 0 ≤ y ∧ y < D) (hx' : 0 ≤ x' ∧ x' < W) (hy' : 0 ≤ y' ∧ y' < D) (h : (z * D + y) * W + x = (z' * D + y') * W + x') : x = x' ∧ y = y' ∧ z = z' := by
  have e1 : x = x' := by
    have a1 := Int.add_mul_emod_self_right x (z * D + y) W
    have a2 := Int.add_mul_emod_self_right x' (z' * D + y') W
    rw [Int.emod_eq_of_lt hx.1 hx.2] at a1
    rw [Int.emod_eq_of_lt hx'.1 hx'.2] at a2
    rw [← a1, ← a2]; congr 1; omega
  have e2 : z * D + y = z' * D + y' := by
    have : (z * D + y) * W = (z' * D + y') * W := by omega
    exact Int.eq_of_mul_eq_mul_right (by omega) this
  have e3 : y = y' := by
    have a1 := Int.add_mul_emod_self_right y z D
    have a2 := Int.add_mul_emod_self_right y' z' D
    rw [Int.emod_eq_of_lt hy.1 hy.2] at a1
    rw [Int.emod_eq_of_lt hy'.1 hy'.2] at a2
    rw [← a1, ← a2]; congr 1; omega
  refine ⟨e1, e3, ?_⟩
  have : z * D = z' * D := by omega
  exact Int.eq_of_mul_eq_mul_right (by omega) this
theorem free_else {W D H : Int} {N kk : Nat} {f : Nat → Bool} {b : Bool} {x y z x' y' z' : Int} (hx : 0 ≤ x ∧ x < W) (hy : 0 ≤ y ∧ y < D) (hk : (z * D + y) * W + x = (kk : Int)) (hne : ¬ (x' = x ∧ y' = y ∧ z' = z)) : (mpOf W D H N (turnAt f kk b)).Free x' y' z' ↔ (mpOf W D H N f).Free x' y' z' := by
  unfold Mp.Free Mp.Sized mpOf turnAt
  dsimp only
  constructor
  · rintro ⟨⟨a1, a2, a3, a4, a5, a6, a7⟩, b1, b2, b3, b4, b5, b6, b7⟩
    refine ⟨⟨a1, a2, a3, a4, a5, a6, a7⟩, b1, b2, b3, b4, b5, b6, ?_⟩
    split at b7
    · rename_i e
      have g1 : 0 ≤ (z' * D + y') * W := Int.mul_nonneg (by have := Int.mul_nonneg b5 (show 0 ≤ D by omega); omega) (by omega)
      have : (z' * D + y') * W + x' = (z * D + y) * W + x := by omega
      obtain ⟨e1, e2, e3⟩ := cell_uniq a1 a3 ⟨b1, b2⟩ ⟨b3, b4⟩ hx hy this
      exact absurd ⟨e1, e2, e3⟩ hne
    · exact b7
  · rintro ⟨⟨a1, a2, a3, a4, a5, a6, a7⟩, b1, b2, b3, b4, b5, b6, b7⟩
    refine ⟨⟨a1, a2, a3, a4, a5, a6, a7⟩, b1, b2, b3, b4, b5, b6, ?_⟩
    split
    · rename_i e
      have g1 : 0 ≤ (z' * D + y') * W := Int.mul_nonneg (by have := Int.mul_nonneg b5 (show 0 ≤ D by omega); omega) (by omega)
      have : (z' * D + y') * W + x' = (z * D + y) * W + x := by omega
      obtain ⟨e1, e2, e3⟩ := cell_uniq a1 a3 ⟨b1, b2⟩ ⟨b3, b4⟩ hx hy this
      exact absurd ⟨e1, e2, e3⟩ hne
    · exact b7
theorem solid_here {W D H : Int} {N kk : Nat} {f : Nat → Bool} {x y z : Int} (h : (mpOf W D H N f).Sized) (hx : 0 ≤ x ∧ x < W) (hy : 0 ≤ y ∧ y < D) (hz : 0 ≤ z ∧ z < H) (hk : (z * D + y) * W + x = (kk : Int)) : (mpOf W D H N f).solid x y z = f kk := by
  obtain ⟨k, _, hke, hs, _⟩ := solid_at h hx hy hz
  unfold mpOf at hke
  dsimp only at hke
  have : k = kk := by omega
  rw [hs, this]; rfl
def Inside (a1 a2 a3 b1 b2 b3 x y z : Int) : Prop := (min (a1 / 65536) (b1 / 65536) ≤ x ∧ x ≤ max (a1 / 65536) (b1 / 65536)) ∧ (min (a2 / 65536) (b2 / 65536) ≤ y ∧ y ≤ max (a2 / 65536) (b2 / 65536)) ∧ (min (a3 / 65536) (b3 / 65536) ≤ z ∧ z ≤ max (a3 / 65536) (b3 / 65536))
theorem sees_else {W D H : Int} {N kk : Nat} {f : Nat → Bool} {b : Bool} {x y z a1 a2 a3 b1 b2 b3 : Int} (hx : 0 ≤ x ∧ x < W) (hy : 0 ≤ y ∧ y < D) (hk : (z * D + y) * W + x = (kk : Int)) (hno : ¬ Inside a1 a2 a3 b1 b2 b3 x y z) : (mpOf W D H N (turnAt f kk b)).Sees ⟨a1, a2, a3⟩ ⟨b1, b2, b3⟩ ↔ (mpOf W D H N f).Sees ⟨a1, a2, a3⟩ ⟨b1, b2, b3⟩ := by
  have hne : ∀ x' y' z' : Int, min (a1 / 65536) (b1 / 65536) ≤ x' → x' ≤ max (a1 / 65536) (b1 / 65536) → min (a2 / 65536) (b2 / 65536) ≤ y' → y' ≤ max (a2 / 65536) (b2 / 65536) → min (a3 / 65536) (b3 / 65536) ≤ z' → z' ≤ max (a3 / 65536) (b3 / 65536) → ¬ (x' = x ∧ y' = y ∧ z' = z) := by
    rintro x' y' z' h1 h2 h3 h4 h5 h6 ⟨rfl, rfl, rfl⟩
    exact hno ⟨⟨h1, h2⟩, ⟨h3, h4⟩, ⟨h5, h6⟩⟩
  constructor
  · intro h
    exact Mp.Sees.same (fun x' y' z' h1 h2 h3 h4 h5 h6 hf => (free_else hx hy hk (hne x' y' z' h1 h2 h3 h4 h5 h6)).1 hf) h
  · intro h
    exact Mp.Sees.same (fun x' y' z' h1 h2 h3 h4 h5 h6 hf => (free_else hx hy hk (hne x' y' z' h1 h2 h3 h4 h5 h6)).2 hf) h
set_option maxRecDepth 100000 in
set_option maxHeartbeats 4000000 in
theorem gridApart_walk (W D H : Int) (mp : Option Addr) (mn mc : Nat) (mf : Nat → Bool) (sp : Option Addr) (sn sc : Nat) (X Y Z : Nat → Int) (a1 a2 a3 : Int) (b1 b2 b3 : Int) (x : Int) (w : World) (hW : I64 W) (hD : I64 D) (hH : I64 H) (hm : Arg w mp mn mc fun i => .bool (mf i)) (hv : ArgW w sp sn sc X Y Z) (hX : ∀ i, I64 (X i) ∧ I64 (Y i) ∧ I64 (Z i)) (ha1 : I64 a1) (ha2 : I64 a2) (ha3 : I64 a3) (hb1 : I64 b1) (hb2 : I64 b2) (hb3 : I64 b3) (hx : I64 x) :
    Calls Try.prog 12 #[.agg #[.int .i64 W, .int .i64 D, .int .i64 H, .slice mp mn mc, .slice sp sn sc], .agg #[.int .i64 a1, .int .i64 a2, .int .i64 a3], .agg #[.int .i64 b1, .int .i64 b2, .int .i64 b3], .int .i64 x] w fun e w' => e = .returned (.bool true) ∧ Below w.heap.size w w' := by
  obtain ⟨u, hu, hub⟩ := mask (m := 16777215) (x := x) (k := 24) rfl (by omega)
  have hle := hm.le; have hmost := hm.most; have hsle := hv.le; have hsmost := hv.most
  obtain ⟨N, hN⟩ : ∃ N, min mn 32768 = N := ⟨_, rfl⟩
  obtain ⟨K, hK⟩ : ∃ N, min sn 70 = N := ⟨_, rfl⟩
  have hsm := fun V => lawSmall W D H mp mn mc mf sp sn sc hle hmost hsle hsmost V
  rw [hN, hK] at hsm
  have HM0 := hid (hm.cut (show N ≤ mn by omega))
  have HV0 := hid (hv.cut (show K ≤ sn by omega))
  have hsh := lawShown
  have hN1 : N ≤ 32768 := by omega
  have hK1 : K ≤ 70 := by omega
  unfold maxLen at hmost hsmost
  clear hm hv hN hK
  have B0 : Below w.heap.size w (((w.alloc (.cells #[.int .i64 W, .int .i64 D, .int .i64 H, .slice mp mn mc, .slice sp sn sc] 25)).alloc (.cells #[.int .i64 a1, .int .i64 a2, .int .i64 a3] 27)).alloc (.cells #[.int .i64 b1, .int .i64 b2, .int .i64 b3] 27)) := (((Below.refl _ _).alloc (Nat.le_refl _) _).alloc (by simp) _).alloc (by simp; omega) _
  have O0 : O5 (((w.alloc (.cells #[.int .i64 W, .int .i64 D, .int .i64 H, .slice mp mn mc, .slice sp sn sc] 25)).alloc (.cells #[.int .i64 a1, .int .i64 a2, .int .i64 a3] 27)).alloc (.cells #[.int .i64 b1, .int .i64 b2, .int .i64 b3] 27)) (w.heap.size) (.int .i64 W) (.int .i64 D) (.int .i64 H) (.slice mp mn mc) (.slice sp sn sc) := ((O5.new _ _ _ _ _ _).alloc _).alloc _
  have a0 : B3 (((w.alloc (.cells #[.int .i64 W, .int .i64 D, .int .i64 H, .slice mp mn mc, .slice sp sn sc] 25)).alloc (.cells #[.int .i64 a1, .int .i64 a2, .int .i64 a3] 27)).alloc (.cells #[.int .i64 b1, .int .i64 b2, .int .i64 b3] 27)) (w.heap.size + 1) 27 a1 a2 a3 := (B3.new' _ _ _ _ _ (by simp)).alloc _
  have b0 : B3 (((w.alloc (.cells #[.int .i64 W, .int .i64 D, .int .i64 H, .slice mp mn mc, .slice sp sn sc] 25)).alloc (.cells #[.int .i64 a1, .int .i64 a2, .int .i64 a3] 27)).alloc (.cells #[.int .i64 b1, .int .i64 b2, .int .i64 b3] 27)) (w.heap.size + 1 + 1) 27 b1 b2 b3 := B3.new' _ _ _ _ _ (by simp)
  go_enter Try.func12, Try.ntmps12
  go_wp2_with fail
  refine (hsh _).mono ?_; rintro e V1 ⟨rfl, q1⟩
  have B1 := B0.trans (q1.mono B0.size)
  have O1 := O0.keep q1
  have a00 := a0.keep q1
  have b00 := b0.keep q1
  clear q1 B0 O0 a0 b0
  obtain ⟨mb, hmb⟩ : ∃ b, w.heap.size = b := ⟨_, rfl⟩
  have hwm : w.heap.size ≤ mb := by omega
  rw [hmb] at a00
  have hna : mb + 1 ≠ mb := by omega
  rw [hmb] at b00
  have hnb : mb + 1 + 1 ≠ mb := by omega
  rw [hmb] at O1
  obtain ⟨m0, m1, m2, m3, m4⟩ := O1.cells
  try rw [hmb]
  try simp only [hmb]
  go_wp2_with fail
  refine (hsm _).mono ?_; rintro e V2 ⟨rfl, q2⟩
  have B2 := B1.trans (q2.mono B1.size)
  have O2 := O1.keep q2
  have a000 := a00.keep q2
  have b000 := b00.keep q2
  clear q2 B1 O1 m0 m1 m2 m3 m4 hsm hsh a00 b00
  obtain ⟨m0, m1, m2, m3, m4⟩ := O2.cells
  obtain ⟨f0, f1, f2, f3, f4⟩ := O2.thaw
  have O3 := O2.set (.int .i64 W) (.int .i64 D) (.int .i64 H) (.slice mp N mc) (.slice sp K sc)
  have aq := a000.set5 hna (.int .i64 W) (.int .i64 D) (.int .i64 H) (.slice mp N mc) (.slice sp K sc)
  have bq := b000.set5 hnb (.int .i64 W) (.int .i64 D) (.int .i64 H) (.slice mp N mc) (.slice sp K sc)
  have HBs := below_set5 B2 hwm (.int .i64 W) (.int .i64 D) (.int .i64 H) (.slice mp N mc) (.slice sp K sc)
  clear O2 B2 a000 b000
  go_upto_region 3 with fail
  clear m0 m1 m2 m3 m4 f0 f1 f2 f3 f4
  generalize ((((V2.setCell ⟨mb, 0, none⟩ (.int .i64 W)).setCell ⟨mb, 1, none⟩ (.int .i64 D)).setCell ⟨mb, 2, none⟩ (.int .i64 H)).setCell ⟨mb, 3, none⟩ (.slice mp N mc)).setCell ⟨mb, 4, none⟩ (.slice sp K sc) = U at *
  obtain ⟨m0, m1, m2, m3, m4⟩ := O3.cells
  obtain ⟨ca0, ca1, ca2⟩ := aq.cells
  obtain ⟨cb0, cb1, cb2⟩ := bq.cells
  have HB := hid HBs
  have HM := hid (HM0.out.keep HBs)
  have HV := hid (HV0.out.keep HBs)
  clear HBs HM0 HV0
  obtain ⟨r, hr⟩ := boolOf ((mpOf W D H N mf).RightP K X Y Z)
  have HR := Tells.mk hr
  clear hr
  go_wp2_with fail
  refine (gridRight W D H mp N mc mf sp K sc X Y Z hX _ HM.out HV.out r HR.iff).mono ?_; rintro e U3 ⟨rfl, q⟩
  clear m0 m1 m2 m3 m4 ca0 ca1 ca2 cb0 cb1 cb2
  have O3 := O3.keep q
  have aq := aq.keep q
  have bq := bq.keep q
  have HM := hid (HM.out.keep q)
  have HB := hid (btrans HB.out q)
  clear q
  obtain ⟨m0, m1, m2, m3, m4⟩ := O3.cells
  obtain ⟨ca0, ca1, ca2⟩ := aq.cells
  obtain ⟨cb0, cb1, cb2⟩ := bq.cells
  cases r with
  | false =>
    go_wp2
    go_ret
    exact ⟨rfl, by have hfin := HB.out; first | exact hfin | exact hmb ▸ hfin⟩
  | true =>
  have hszd := right_sized (HR.iff.1 rfl)
  have hN0 : 0 < N := by
    obtain ⟨a1', a2', a3', a4', a5', a6', a7'⟩ := hszd
    have := (sized_mul ⟨a1', a2'⟩ ⟨a3', a4'⟩ ⟨a5', a6'⟩).2.1.1
    unfold mpOf at a7' this
    dsimp only at a7' this
    omega
  clear HR
  obtain ⟨kk, hkk⟩ : ∃ k, u % N = k := ⟨_, rfl⟩
  have hkl : kk < N := by rw [← hkk]; exact Nat.mod_lt _ hN0
  have htm : Int.tmod (u : Int) (N : Int) = (kk : Int) := by rw [Int.tmod_eq_emod_of_nonneg (by omega)]; rw [← hkk]; omega
  obtain ⟨cx, cy, cz, ex, ey, ez, hcx, hcy, hcz, hce, w1, w2, d1, d2, h1, h2⟩ := cell_of (f := mf) hszd hkl
  have HSZ := hid hszd
  have HCE := hid hce
  have HKK := hid hkk
  clear hkk hszd hce
  obtain ⟨dv, hdv⟩ : ∃ q, Int.tdiv (kk : Int) W = q := ⟨_, rfl⟩
  rw [hdv] at ey ez
  have hdvb : 0 ≤ dv ∧ dv ≤ 32768 := by
    rw [← hdv, Int.tdiv_eq_ediv_of_nonneg (by omega)]
    exact ⟨Int.ediv_nonneg (by omega) (by omega), Int.le_trans (Int.ediv_le_self _ (by omega)) (by omega)⟩
  obtain ⟨dv0, dv1⟩ := hdvb
  have wdv : wrap64 dv = dv := by unfold wrap64; omega
  have wcz : wrap64 cz = cz := by unfold wrap64; omega
  have nW : (W == 0) = false := beq_eq_false_iff_ne.2 (by omega)
  have nD : (D == 0) = false := beq_eq_false_iff_ne.2 (by omega)
  have nW' : ¬ W = 0 := by omega
  have nD' : ¬ D = 0 := by omega
  have nN' : ¬ (N : Int) = 0 := by omega
  have nN : ((N : Int) == 0) = false := beq_eq_false_iff_ne.2 (by omega)
  obtain ⟨cx0, cx1⟩ := hcx; obtain ⟨cy0, cy1⟩ := hcy; obtain ⟨cz0, cz1⟩ := hcz
  go_upto_region 7 with fail
  go_quiet (fail)
  have q := below_drewN (B := U3.heap.size) U3 nq
  clear m0 m1 m2 m3 m4 ca0 ca1 ca2 cb0 cb1 cb2
  have O3 := O3.keep q
  have aq := aq.keep q
  have bq := bq.keep q
  have HM := hid (HM.out.keep q)
  have HB := hid (btrans HB.out q)
  clear q
  obtain ⟨m0, m1, m2, m3, m4⟩ := O3.cells
  obtain ⟨ca0, ca1, ca2⟩ := aq.cells
  obtain ⟨cb0, cb1, cb2⟩ := bq.cells
  generalize U3.drewN nq = U4 at *
  go_upto_region 8 with fail
  go_quiet (fail)
  have q := below_drewN (B := U4.heap.size) U4 nq
  clear m0 m1 m2 m3 m4 ca0 ca1 ca2 cb0 cb1 cb2
  have O3 := O3.keep q
  have aq := aq.keep q
  have bq := bq.keep q
  have HM := hid (HM.out.keep q)
  have HB := hid (btrans HB.out q)
  clear q
  obtain ⟨m0, m1, m2, m3, m4⟩ := O3.cells
  obtain ⟨ca0, ca1, ca2⟩ := aq.cells
  obtain ⟨cb0, cb1, cb2⟩ := bq.cells
  generalize U4.drewN nq = U5 at *
  clear hdv dv0 dv1 wdv wcz nW nD nW' nD' ex ey ez
  go_wp2_with fail
  refine (gridAt a1 a2 a3 ha1 ha2 ha3 _).mono ?_; rintro e U6 ⟨rfl, q⟩
  clear m0 m1 m2 m3 m4 ca0 ca1 ca2 cb0 cb1 cb2
  have O3 := O3.keep q
  have aq := aq.keep q
  have bq := bq.keep q
  have HM := hid (HM.out.keep q)
  have HB := hid (btrans HB.out q)
  clear q
  obtain ⟨m0, m1, m2, m3, m4⟩ := O3.cells
  obtain ⟨ca0, ca1, ca2⟩ := aq.cells
  obtain ⟨cb0, cb1, cb2⟩ := bq.cells
  go_wp2_with fail
  refine (gridAt b1 b2 b3 hb1 hb2 hb3 _).mono ?_; rintro e U7 ⟨rfl, q⟩
  clear m0 m1 m2 m3 m4 ca0 ca1 ca2 cb0 cb1 cb2
  have O3 := O3.keep q
  have aq := aq.keep q
  have bq := bq.keep q
  have HM := hid (HM.out.keep q)
  have HB := hid (btrans HB.out q)
  clear q
  obtain ⟨m0, m1, m2, m3, m4⟩ := O3.cells
  obtain ⟨ca0, ca1, ca2⟩ := aq.cells
  obtain ⟨cb0, cb1, cb2⟩ := bq.cells
  obtain ⟨lo1, hlo1⟩ : ∃ c, min (a1 / 65536) (b1 / 65536) = c := ⟨_, rfl⟩
  obtain ⟨up1, hup1⟩ : ∃ c, max (a1 / 65536) (b1 / 65536) = c := ⟨_, rfl⟩
  have kl1 := fun ts t V => min2 (a := a1 / 65536) (b := b1 / 65536) ts t V
  have ku1 := fun ts t V => max2 (a := a1 / 65536) (b := b1 / 65536) ts t V
  rw [hlo1] at kl1
  rw [hup1] at ku1
  obtain ⟨lo2, hlo2⟩ : ∃ c, min (a2 / 65536) (b2 / 65536) = c := ⟨_, rfl⟩
  obtain ⟨up2, hup2⟩ : ∃ c, max (a2 / 65536) (b2 / 65536) = c := ⟨_, rfl⟩
  have kl2 := fun ts t V => min2 (a := a2 / 65536) (b := b2 / 65536) ts t V
  have ku2 := fun ts t V => max2 (a := a2 / 65536) (b := b2 / 65536) ts t V
  rw [hlo2] at kl2
  rw [hup2] at ku2
  obtain ⟨lo3, hlo3⟩ : ∃ c, min (a3 / 65536) (b3 / 65536) = c := ⟨_, rfl⟩
  obtain ⟨up3, hup3⟩ : ∃ c, max (a3 / 65536) (b3 / 65536) = c := ⟨_, rfl⟩
  have kl3 := fun ts t V => min2 (a := a3 / 65536) (b := b3 / 65536) ts t V
  have ku3 := fun ts t V => max2 (a := a3 / 65536) (b := b3 / 65536) ts t V
  rw [hlo3] at kl3
  rw [hup3] at ku3
  have hins := hid (show Inside a1 a2 a3 b1 b2 b3 cx cy cz ↔ (lo1 ≤ cx ∧ cx ≤ up1) ∧ (lo2 ≤ cy ∧ cy ≤ up2) ∧ (lo3 ≤ cz ∧ cz ≤ up3) by
    unfold Inside; rw [hlo1, hlo2, hlo3, hup1, hup2, hup3])
  clear hlo1 hlo2 hlo3 hup1 hup2 hup3
  go_upto_region 11 with fail
  go_cut [103] from 64 to 103 (fun c wx => ∃ b : Bool, c = .bool b ∧ (b = false → ¬ Inside a1 a2 a3 b1 b2 b3 cx cy cz) ∧ wx = U7)
  case first =>
    by_cases k1 : lo1 ≤ cx
    case neg =>
      go_wp2
      go_meet
      exact ⟨false, rfl, fun _ e => by have := hins.out.1 e; omega, rfl⟩
    by_cases k2 : cx ≤ up1
    case neg =>
      go_wp2
      go_meet
      exact ⟨false, rfl, fun _ e => by have := hins.out.1 e; omega, rfl⟩
    by_cases k3 : lo2 ≤ cy
    case neg =>
      go_wp2
      go_meet
      exact ⟨false, rfl, fun _ e => by have := hins.out.1 e; omega, rfl⟩
    by_cases k4 : cy ≤ up2
    case neg =>
      go_wp2
      go_meet
      exact ⟨false, rfl, fun _ e => by have := hins.out.1 e; omega, rfl⟩
    by_cases k5 : lo3 ≤ cz
    case neg =>
      go_wp2
      go_meet
      exact ⟨false, rfl, fun _ e => by have := hins.out.1 e; omega, rfl⟩
    by_cases k6 : cz ≤ up3
    case neg =>
      go_wp2
      go_meet
      exact ⟨false, rfl, fun _ e => by have := hins.out.1 e; omega, rfl⟩
    go_wp2
    go_meet
    exact ⟨true, rfl, fun e => absurd e (by decide), rfl⟩
  case rest =>
    obtain ⟨ins, rfl, hno, hwc⟩ := hcut
    have hwc' := hwc.symm
    subst hwc'
    clear hins kl1 kl2 kl3 ku1 ku2 ku3
    cases ins with
    | true =>
      go_wp2
      go_ret
      exact ⟨rfl, by have hfin := HB.out; first | exact hfin | exact hmb ▸ hfin⟩
    | false =>
    have hout := hid (hno rfl)
    clear hno
    have O4 := O3.alloc (.cells #[.int .i64 W, .int .i64 D, .int .i64 H, .slice mp N mc, .slice sp K sc] 25)
    have X4 := O5.new U7 (.int .i64 W) (.int .i64 D) (.int .i64 H) (.slice mp N mc) (.slice sp K sc)
    have a4 := aq.alloc (.cells #[.int .i64 W, .int .i64 D, .int .i64 H, .slice mp N mc, .slice sp K sc] 25)
    have b4 := bq.alloc (.cells #[.int .i64 W, .int .i64 D, .int .i64 H, .slice mp N mc, .slice sp K sc] 25)
    have HB4 := HB.out.alloc HB.out.size (.cells #[.int .i64 W, .int .i64 D, .int .i64 H, .slice mp N mc, .slice sp K sc] 25)
    have HBU := hid ((Below.refl U7.heap.size U7).alloc (Nat.le_refl _) (.cells #[.int .i64 W, .int .i64 D, .int .i64 H, .slice mp N mc, .slice sp K sc] 25))
    have HM4 := HM.out.keep ((Below.refl U7.heap.size U7).alloc (Nat.le_refl _) (.cells #[.int .i64 W, .int .i64 D, .int .i64 H, .slice mp N mc, .slice sp K sc] 25))
    have hwx : w.heap.size ≤ U7.heap.size := HB.out.size
    go_upto_region 14 with fail
    obtain ⟨xb, hxb⟩ : ∃ b, U7.heap.size = b := ⟨_, rfl⟩
    have hxm : mb ≠ xb := by have := O3.lt; omega
    have hxa : mb + 1 ≠ xb := by have := aq.lt; omega
    have hxc : mb + 1 + 1 ≠ xb := by have := bq.lt; omega
    rw [hxb] at X4 hwx
    try simp only [hxb]
    generalize U7.alloc (.cells #[.int .i64 W, .int .i64 D, .int .i64 H, .slice mp N mc, .slice sp K sc] 25) = W4 at *
    clear m0 m1 m2 m3 m4 ca0 ca1 ca2 cb0 cb1 cb2 O3 aq bq HB
    obtain ⟨g, cap, W2, hap, hgb, hBs, hB2⟩ := copyB 22 HM4 hN1 hN0
    have hgx : xb < g := Nat.lt_of_lt_of_le X4.lt hgb
    have hgm : mb < g := Nat.lt_of_lt_of_le O4.lt hgb
    have hga : mb + 1 < g := Nat.lt_of_lt_of_le a4.lt hgb
    have hgc : mb + 1 + 1 < g := Nat.lt_of_lt_of_le b4.lt hgb
    have O5' := O4.keep hB2
    have X5 := X4.keep hB2
    have a5 := a4.keep hB2
    have b5 := b4.keep hB2
    have HB5 := HB4.trans (hB2.mono HB4.size)
    have HBU5 := hid (HBU.out.trans (hB2.mono HBU.out.size))
    have m3 := Lib.cell?_alloc_some (.cells #[] 4) O4.cells.2.2.2.1
    obtain ⟨x0, x1, x2, x3, x4⟩ := X5.cells
    obtain ⟨f0, f1, f2, f3, f4⟩ := X5.thaw
    have X6 := X5.set3 (.slice (some ⟨g, 0, none⟩) N cap)
    have O6 := O5'.other hxm (o := 3) (.slice (some ⟨g, 0, none⟩) N cap)
    have a6 := a5.other hxa (o := 3) (.slice (some ⟨g, 0, none⟩) N cap)
    have b6 := b5.other hxc (o := 3) (.slice (some ⟨g, 0, none⟩) N cap)
    have Bs6 := hBs.other (Nat.ne_of_gt hgx) (o := 3) (.slice (some ⟨g, 0, none⟩) N cap)
    have HB6 := HB5.setCell (p := ⟨xb, 3, none⟩) hwx (.slice (some ⟨g, 0, none⟩) N cap)
    have HBU6 := hid (HBU5.out.setCell (p := ⟨xb, 3, none⟩) (show U7.heap.size ≤ xb by omega) (.slice (some ⟨g, 0, none⟩) N cap))
    have hUg : U7.heap.size ≤ g := by omega
    clear O4 X4 a4 b4 HB4 hB2 hgb O5' X5 a5 b5 hBs HB5 HBU HBU5 HM4
    go_upto_region 15 with (first | (at_builtin; refine Lib.wpList_append_run _ rfl _ _ _ _ rfl _ _ rfl rfl _ _ hap ?_))
    generalize W2.setCell ⟨xb, 3, none⟩ (.slice (some ⟨g, 0, none⟩) N cap) = W6 at *
    clear m3 x0 x1 x2 x3 x4 f0 f1 f2 f3 f4 hap
    obtain ⟨x0, x1, x2, x3, x4⟩ := X6.cells
    obtain ⟨gc, gf⟩ := Bs6.cell hkl
    have hkl' : (kk : Int) < (N : Int) := by omega
    have hle2 := Bs6.le
    obtain ⟨v, hv⟩ : ∃ v, mf kk = v := ⟨_, rfl⟩
    rw [hv] at gc
    go_region
    have Bs7 := (Bs6.set hkl (!v)).keep (below_drewN _ 1)
    have O7 := (O6.other (Nat.ne_of_lt hgm) (o := kk) (.bool (!v))).keep (below_drewN _ 1)
    have X7 := (X6.other (Nat.ne_of_lt hgx) (o := kk) (.bool (!v))).keep (below_drewN _ 1)
    have a7 := (a6.other (Nat.ne_of_lt hga) (o := kk) (.bool (!v))).keep (below_drewN _ 1)
    have b7 := (b6.other (Nat.ne_of_lt hgc) (o := kk) (.bool (!v))).keep (below_drewN _ 1)
    have HB7 : Below w.heap.size w (W6.setCell ⟨g, kk, none⟩ (.bool (!v))).drew := (HB6.setCell (p := ⟨g, kk, none⟩) (show w.heap.size ≤ g by omega) (.bool (!v))).drew
    have HM7 := hid (HM.out.keep (show Below U7.heap.size U7 (W6.setCell ⟨g, kk, none⟩ (.bool (!v))).drew from (HBU6.out.setCell (p := ⟨g, kk, none⟩) hUg (.bool (!v))).drew))
    clear Bs6 O6 X6 a6 b6 HB6 HBU6 x0 x1 x2 x3 x4 gc gf
    change Bs (W6.setCell ⟨g, kk, none⟩ (.bool (!v))).drew g N cap (turnAt mf kk (!v)) at Bs7
    change O5 (W6.setCell ⟨g, kk, none⟩ (.bool (!v))).drew _ _ _ _ _ _ at O7
    change O5 (W6.setCell ⟨g, kk, none⟩ (.bool (!v))).drew _ _ _ _ _ _ at X7
    change B3 (W6.setCell ⟨g, kk, none⟩ (.bool (!v))).drew _ _ _ _ _ at a7
    change B3 (W6.setCell ⟨g, kk, none⟩ (.bool (!v))).drew _ _ _ _ _ at b7
    go_upto_region 16 with fail
    generalize (W6.setCell ⟨g, kk, none⟩ (.bool (!v))).drew = W7 at *
    have hs1 := solid_here (f := mf) HSZ.out ⟨cx0, cx1⟩ ⟨cy0, cy1⟩ ⟨cz0, cz1⟩ HCE.out
    have hs2 := solid_here (f := turnAt mf kk (!v)) (W := W) (D := D) (H := H) (N := N) (kk := kk) HSZ.out ⟨cx0, cx1⟩ ⟨cy0, cy1⟩ ⟨cz0, cz1⟩ HCE.out
    rw [hv] at hs1
    have hs2' : turnAt mf kk (!v) kk = !v := by unfold turnAt; rw [if_pos rfl]
    rw [hs2'] at hs2
    obtain ⟨s, hs⟩ := boolOf ((mpOf W D H N mf).Sees ⟨a1, a2, a3⟩ ⟨b1, b2, b3⟩)
    have hse := hs.trans (sees_else (N := N) (f := mf) (b := !v) ⟨cx0, cx1⟩ ⟨cy0, cy1⟩ HCE.out hout.out).symm
    obtain ⟨m0, m1, m2, m3, m4⟩ := O7.cells
    obtain ⟨x0, x1, x2, x3, x4⟩ := X7.cells
    obtain ⟨ca0, ca1, ca2⟩ := a7.cells
    obtain ⟨cb0, cb1, cb2⟩ := b7.cells
    have r0 := stays m0
    have rx0 := stays x0
    have r1 := stays m1
    have rx1 := stays x1
    have r2 := stays m2
    have rx2 := stays x2
    have r3 := stays m3
    have rx3 := stays x3
    have r4 := stays m4
    have rx4 := stays x4
    have ra0 := stays ca0
    have ra1 := stays ca1
    have ra2 := stays ca2
    have rb0 := stays cb0
    have rb1 := stays cb1
    have rb2 := stays cb2
    have k1 := hid (fun V (hV : Below W7.heap.size W7 V) => gridSight W D H mp N mc mf sp K sc a1 a2 a3 b1 b2 b3 ha1 ha2 ha3 hb1 hb2 hb3 V (HM7.out.keep hV) s hs)
    have k2 := hid (fun V (hV : Below W7.heap.size W7 V) => gridSight W D H (some ⟨g, 0, none⟩) N cap (turnAt mf kk (!v)) sp K sc a1 a2 a3 b1 b2 b3 ha1 ha2 ha3 hb1 hb2 hb3 V ((Bs7.keep hV).arg) s hse)
    have k3 := hid (fun V (hV : Below W7.heap.size W7 V) => hs2 ▸ gridSolid W D H (some ⟨g, 0, none⟩) N cap (turnAt mf kk (!v)) sp K sc cx cy cz V ((Bs7.keep hV).arg))
    have k4 := hid (fun V (hV : Below W7.heap.size W7 V) => hs1 ▸ gridSolid W D H mp N mc mf sp K sc cx cy cz V (HM7.out.keep hV))
    have HB := hid HB7
    clear m0 m1 m2 m3 m4 ca0 ca1 ca2 cb0 cb1 cb2 x0 x1 x2 x3 x4 hs hse hs1 hs2 hs2' hv HB7 Bs7 O7 X7 a7 b7 hout HM HM7 HSZ HCE HKK
    cases s with
    | true =>
      cases v with
      | true =>
        refine region_held (fun w' => Below W7.heap.size W7 w') 26 rfl (by kernel_rfl) (below_drewN W7 1) ?_
        intro hHeld
        refine takeO 0 (some 121) (v := ?v1) rfl rfl (by kernel_rfl) (by kernel_rfl) (by kernel_rfl) (Or.inl ⟨by rfl, ?y1⟩) hHeld ?r1
        case y1 => (intro w' hSw; (try dsimp only at hSw); go_simp; try with_reducible rfl)
        try simp only [Act.put, List.setIfInBounds_toArray, List.set_cons_zero, List.set_cons_succ]
        refine takeO 1 (some 122) (v := ?v2) rfl rfl (by kernel_rfl) (by kernel_rfl) (by kernel_rfl) (Or.inl ⟨by rfl, ?y2⟩) hHeld ?r2
        case y2 => (intro w' hSw; (try dsimp only at hSw); go_simp; try with_reducible rfl)
        try simp only [Act.put, List.setIfInBounds_toArray, List.set_cons_zero, List.set_cons_succ]
        refine takeO 2 (some 123) (v := ?v3) rfl rfl (by kernel_rfl) (by kernel_rfl) (by kernel_rfl) (Or.inl ⟨by rfl, ?y3⟩) hHeld ?r3
        case y3 => (intro w' hSw; (try dsimp only at hSw); go_simp; try with_reducible rfl)
        try simp only [Act.put, List.setIfInBounds_toArray, List.set_cons_zero, List.set_cons_succ]
        refine takeO 3 (some 124) (v := ?v4) rfl rfl (by kernel_rfl) (by kernel_rfl) (by kernel_rfl) (Or.inl ⟨by rfl, ?y4⟩) hHeld ?r4
        case y4 => (intro w' hSw; (try dsimp only at hSw); go_simp; try with_reducible rfl)
        try simp only [Act.put, List.setIfInBounds_toArray, List.set_cons_zero, List.set_cons_succ]
        refine takeO 4 (some 125) (v := ?v5) rfl rfl (by kernel_rfl) (by kernel_rfl) (by kernel_rfl) (Or.inl ⟨by rfl, ?y5⟩) hHeld ?r5
        case y5 => (intro w' hSw; (try dsimp only at hSw); go_simp; try with_reducible rfl)
        try simp only [Act.put, List.setIfInBounds_toArray, List.set_cons_zero, List.set_cons_succ]
        refine takeO 6 (some 127) (v := ?v6) rfl rfl (by kernel_rfl) (by kernel_rfl) (by kernel_rfl) (Or.inl ⟨by rfl, ?y6⟩) hHeld ?r6
        case y6 => (intro w' hSw; (try dsimp only at hSw); go_simp; try with_reducible rfl)
        try simp only [Act.put, List.setIfInBounds_toArray, List.set_cons_zero, List.set_cons_succ]
        refine takeO 7 (some 128) (v := ?v7) rfl rfl (by kernel_rfl) (by kernel_rfl) (by kernel_rfl) (Or.inl ⟨by rfl, ?y7⟩) hHeld ?r7
        case y7 => (intro w' hSw; (try dsimp only at hSw); go_simp; try with_reducible rfl)
        try simp only [Act.put, List.setIfInBounds_toArray, List.set_cons_zero, List.set_cons_succ]
        refine takeO 8 (some 129) (v := ?v8) rfl rfl (by kernel_rfl) (by kernel_rfl) (by kernel_rfl) (Or.inl ⟨by rfl, ?y8⟩) hHeld ?r8
        case y8 => (intro w' hSw; (try dsimp only at hSw); go_simp; try with_reducible rfl)
        try simp only [Act.put, List.setIfInBounds_toArray, List.set_cons_zero, List.set_cons_succ]
        refine wpAnyH_ready (rs := [5]) (by kernel_rfl) (by simp) ?_
        refine AllReadyH.cons rfl (fun K hK => ?_) AllReadyH.nil
        go_simp
        refine (k1.out _ (below_drewN W7 1)).mono ?_
        rintro e V1 ⟨rfl, q1⟩
        dsimp only
        have HB1 : Below W7.heap.size W7 V1 := Below.trans (below_drewN W7 1) q1
        refine hK.out _ _ HB1 (fun hHeld => ?_)
        clear hK K q1
        refine wpAnyH_ready (rs := [9]) (by kernel_rfl) (by simp) ?_
        refine AllReadyH.cons rfl (fun K hK => ?_) AllReadyH.nil
        go_simp
        refine (k2.out _ HB1).mono ?_
        rintro e V2 ⟨rfl, q2⟩
        dsimp only
        have HB2 := btrans HB1 q2
        refine hK.out _ _ HB2 (fun hHeld => ?_)
        clear hK K q2 HB1
        refine takeO 10 (some 131) (v := ?v9) rfl rfl (by kernel_rfl) (by kernel_rfl) (by kernel_rfl) (Or.inl ⟨by rfl, ?y9⟩) hHeld ?r9
        case y9 => (intro w' hSw; (try dsimp only at hSw); go_simp; try with_reducible rfl)
        try simp only [Act.put, List.setIfInBounds_toArray, List.set_cons_zero, List.set_cons_succ]
        refine takeO 11 (some 132) (v := ?v10) rfl rfl (by kernel_rfl) (by kernel_rfl) (by kernel_rfl) (Or.inl ⟨by rfl, ?y10⟩) hHeld ?r10
        case y10 => (intro w' hSw; (try dsimp only at hSw); go_simp; try with_reducible rfl)
        try simp only [Act.put, List.setIfInBounds_toArray, List.set_cons_zero, List.set_cons_succ]
        refine takeO 12 (some 133) (v := ?v11) rfl rfl (by kernel_rfl) (by kernel_rfl) (by kernel_rfl) (Or.inl ⟨by rfl, ?y11⟩) hHeld ?r11
        case y11 => (intro w' hSw; (try dsimp only at hSw); go_simp; try with_reducible rfl)
        try simp only [Act.put, List.setIfInBounds_toArray, List.set_cons_zero, List.set_cons_succ]
        refine takeO 13 (some 134) (v := ?v12) rfl rfl (by kernel_rfl) (by kernel_rfl) (by kernel_rfl) (Or.inl ⟨by rfl, ?y12⟩) hHeld ?r12
        case y12 => (intro w' hSw; (try dsimp only at hSw); go_simp; try with_reducible rfl)
        try simp only [Act.put, List.setIfInBounds_toArray, List.set_cons_zero, List.set_cons_succ]
        refine takeO 14 (some 135) (v := ?v13) rfl rfl (by kernel_rfl) (by kernel_rfl) (by kernel_rfl) (Or.inl ⟨by rfl, ?y13⟩) hHeld ?r13
        case y13 => (intro w' hSw; (try dsimp only at hSw); go_simp; try with_reducible rfl)
        try simp only [Act.put, List.setIfInBounds_toArray, List.set_cons_zero, List.set_cons_succ]
        refine takeO 15 (some 136) (v := ?v14) rfl rfl (by kernel_rfl) (by kernel_rfl) (by kernel_rfl) (Or.inl ⟨by rfl, ?y14⟩) hHeld ?r14
        case y14 => (intro w' hSw; (try dsimp only at hSw); go_simp; try with_reducible rfl)
        try simp only [Act.put, List.setIfInBounds_toArray, List.set_cons_zero, List.set_cons_succ]
        refine takeO 16 (some 137) (v := ?v15) rfl rfl (by kernel_rfl) (by kernel_rfl) (by kernel_rfl) (Or.inl ⟨by rfl, ?y15⟩) hHeld ?r15
        case y15 => (intro w' hSw; (try dsimp only at hSw); go_simp; try with_reducible rfl)
        try simp only [Act.put, List.setIfInBounds_toArray, List.set_cons_zero, List.set_cons_succ]
        refine takeO 18 (some 139) (v := ?v16) rfl rfl (by kernel_rfl) (by kernel_rfl) (by kernel_rfl) (Or.inl ⟨by rfl, ?y16⟩) hHeld ?r16
        case y16 => (intro w' hSw; (try dsimp only at hSw); go_simp; try with_reducible rfl)
        try simp only [Act.put, List.setIfInBounds_toArray, List.set_cons_zero, List.set_cons_succ]
        refine takeO 19 (some 140) (v := ?v17) rfl rfl (by kernel_rfl) (by kernel_rfl) (by kernel_rfl) (Or.inl ⟨by rfl, ?y17⟩) hHeld ?r17
        case y17 => (intro w' hSw; (try dsimp only at hSw); go_simp; try with_reducible rfl)
        try simp only [Act.put, List.setIfInBounds_toArray, List.set_cons_zero, List.set_cons_succ]
        refine takeO 20 (some 141) (v := ?v18) rfl rfl (by kernel_rfl) (by kernel_rfl) (by kernel_rfl) (Or.inl ⟨by rfl, ?y18⟩) hHeld ?r18
        case y18 => (intro w' hSw; (try dsimp only at hSw); go_simp; try with_reducible rfl)
        try simp only [Act.put, List.setIfInBounds_toArray, List.set_cons_zero, List.set_cons_succ]
        refine takeO 21 (some 142) (v := ?v19) rfl rfl (by kernel_rfl) (by kernel_rfl) (by kernel_rfl) (Or.inl ⟨by rfl, ?y19⟩) hHeld ?r19
        case y19 => (intro w' hSw; (try dsimp only at hSw); go_simp; try with_reducible rfl)
        try simp only [Act.put, List.setIfInBounds_toArray, List.set_cons_zero, List.set_cons_succ]
        refine wpAnyH_ready (rs := [17]) (by kernel_rfl) (by simp) ?_
        refine AllReadyH.cons rfl (fun K hK => ?_) AllReadyH.nil
        go_simp
        refine (k3.out _ HB2).mono ?_
        rintro e V3 ⟨rfl, q3⟩
        dsimp only
        have HB3 := btrans HB2 q3
        refine hK.out _ _ HB3 (fun hHeld => ?_)
        clear hK K q3 HB2
        refine wpAnyH_ready (rs := [22]) (by kernel_rfl) (by simp) ?_
        refine AllReadyH.cons rfl (fun K hK => ?_) AllReadyH.nil
        go_simp
        refine (k4.out _ HB3).mono ?_
        rintro e V4 ⟨rfl, q4⟩
        dsimp only
        have HB4 := btrans HB3 q4
        refine hK.out _ _ HB4 (fun hHeld => ?_)
        clear hK K q4 HB3
        refine takeO 23 (some 144) (v := ?v20) rfl rfl (by kernel_rfl) (by kernel_rfl) (by kernel_rfl) (Or.inl ⟨by rfl, ?y20⟩) hHeld ?r20
        case y20 => (intro w' hSw; (try dsimp only at hSw); go_simp; try with_reducible rfl)
        try simp only [Act.put, List.setIfInBounds_toArray, List.set_cons_zero, List.set_cons_succ]
        refine takeO 24 (some 145) (v := ?v21) rfl rfl (by kernel_rfl) (by kernel_rfl) (by kernel_rfl) (Or.inl ⟨by rfl, ?y21⟩) hHeld ?r21
        case y21 => (intro w' hSw; (try dsimp only at hSw); go_simp; try with_reducible rfl)
        try simp only [Act.put, List.setIfInBounds_toArray, List.set_cons_zero, List.set_cons_succ]
        refine takeO 25 (some 8) (v := ?v22) rfl rfl (by kernel_rfl) (by kernel_rfl) (by kernel_rfl) (Or.inl ⟨by rfl, ?y22⟩) hHeld ?r22
        case y22 => (intro w' hSw; (try dsimp only at hSw); go_simp; try with_reducible rfl)
        try simp only [Act.put, List.setIfInBounds_toArray, List.set_cons_zero, List.set_cons_succ]
        refine wpAnyH_done (by kernel_rfl) (Only.on ?_) _
        clear hHeld
        go_wp2
        go_ret
        exact ⟨rfl, by have hfin := btrans HB.out HB4; first | exact hfin | exact hmb ▸ hfin⟩
      | false =>
        refine region_held (fun w' => Below W7.heap.size W7 w') 26 rfl (by kernel_rfl) (below_drewN W7 1) ?_
        intro hHeld
        refine takeO 0 (some 121) (v := ?v23) rfl rfl (by kernel_rfl) (by kernel_rfl) (by kernel_rfl) (Or.inl ⟨by rfl, ?y23⟩) hHeld ?r23
        case y23 => (intro w' hSw; (try dsimp only at hSw); go_simp; try with_reducible rfl)
        try simp only [Act.put, List.setIfInBounds_toArray, List.set_cons_zero, List.set_cons_succ]
        refine takeO 1 (some 122) (v := ?v24) rfl rfl (by kernel_rfl) (by kernel_rfl) (by kernel_rfl) (Or.inl ⟨by rfl, ?y24⟩) hHeld ?r24
        case y24 => (intro w' hSw; (try dsimp only at hSw); go_simp; try with_reducible rfl)
        try simp only [Act.put, List.setIfInBounds_toArray, List.set_cons_zero, List.set_cons_succ]
        refine takeO 2 (some 123) (v := ?v25) rfl rfl (by kernel_rfl) (by kernel_rfl) (by kernel_rfl) (Or.inl ⟨by rfl, ?y25⟩) hHeld ?r25
        case y25 => (intro w' hSw; (try dsimp only at hSw); go_simp; try with_reducible rfl)
        try simp only [Act.put, List.setIfInBounds_toArray, List.set_cons_zero, List.set_cons_succ]
        refine takeO 3 (some 124) (v := ?v26) rfl rfl (by kernel_rfl) (by kernel_rfl) (by kernel_rfl) (Or.inl ⟨by rfl, ?y26⟩) hHeld ?r26
        case y26 => (intro w' hSw; (try dsimp only at hSw); go_simp; try with_reducible rfl)
        try simp only [Act.put, List.setIfInBounds_toArray, List.set_cons_zero, List.set_cons_succ]
        refine takeO 4 (some 125) (v := ?v27) rfl rfl (by kernel_rfl) (by kernel_rfl) (by kernel_rfl) (Or.inl ⟨by rfl, ?y27⟩) hHeld ?r27
        case y27 => (intro w' hSw; (try dsimp only at hSw); go_simp; try with_reducible rfl)
        try simp only [Act.put, List.setIfInBounds_toArray, List.set_cons_zero, List.set_cons_succ]
        refine takeO 6 (some 127) (v := ?v28) rfl rfl (by kernel_rfl) (by kernel_rfl) (by kernel_rfl) (Or.inl ⟨by rfl, ?y28⟩) hHeld ?r28
        case y28 => (intro w' hSw; (try dsimp only at hSw); go_simp; try with_reducible rfl)
        try simp only [Act.put, List.setIfInBounds_toArray, List.set_cons_zero, List.set_cons_succ]
        refine takeO 7 (some 128) (v := ?v29) rfl rfl (by kernel_rfl) (by kernel_rfl) (by kernel_rfl) (Or.inl ⟨by rfl, ?y29⟩) hHeld ?r29
        case y29 => (intro w' hSw; (try dsimp only at hSw); go_simp; try with_reducible rfl)
        try simp only [Act.put, List.setIfInBounds_toArray, List.set_cons_zero, List.set_cons_succ]
        refine takeO 8 (some 129) (v := ?v30) rfl rfl (by kernel_rfl) (by kernel_rfl) (by kernel_rfl) (Or.inl ⟨by rfl, ?y30⟩) hHeld ?r30
        case y30 => (intro w' hSw; (try dsimp only at hSw); go_simp; try with_reducible rfl)
        try simp only [Act.put, List.setIfInBounds_toArray, List.set_cons_zero, List.set_cons_succ]
        refine wpAnyH_ready (rs := [5]) (by kernel_rfl) (by simp) ?_
        refine AllReadyH.cons rfl (fun K hK => ?_) AllReadyH.nil
        go_simp
        refine (k1.out _ (below_drewN W7 1)).mono ?_
        rintro e V1 ⟨rfl, q1⟩
        dsimp only
        have HB1 : Below W7.heap.size W7 V1 := Below.trans (below_drewN W7 1) q1
        refine hK.out _ _ HB1 (fun hHeld => ?_)
        clear hK K q1
        refine wpAnyH_ready (rs := [9]) (by kernel_rfl) (by simp) ?_
        refine AllReadyH.cons rfl (fun K hK => ?_) AllReadyH.nil
        go_simp
        refine (k2.out _ HB1).mono ?_
        rintro e V2 ⟨rfl, q2⟩
        dsimp only
        have HB2 := btrans HB1 q2
        refine hK.out _ _ HB2 (fun hHeld => ?_)
        clear hK K q2 HB1
        refine takeO 10 (some 131) (v := ?v31) rfl rfl (by kernel_rfl) (by kernel_rfl) (by kernel_rfl) (Or.inl ⟨by rfl, ?y31⟩) hHeld ?r31
        case y31 => (intro w' hSw; (try dsimp only at hSw); go_simp; try with_reducible rfl)
        try simp only [Act.put, List.setIfInBounds_toArray, List.set_cons_zero, List.set_cons_succ]
        refine takeO 11 (some 132) (v := ?v32) rfl rfl (by kernel_rfl) (by kernel_rfl) (by kernel_rfl) (Or.inl ⟨by rfl, ?y32⟩) hHeld ?r32
        case y32 => (intro w' hSw; (try dsimp only at hSw); go_simp; try with_reducible rfl)
        try simp only [Act.put, List.setIfInBounds_toArray, List.set_cons_zero, List.set_cons_succ]
        refine takeO 12 (some 133) (v := ?v33) rfl rfl (by kernel_rfl) (by kernel_rfl) (by kernel_rfl) (Or.inl ⟨by rfl, ?y33⟩) hHeld ?r33
        case y33 => (intro w' hSw; (try dsimp only at hSw); go_simp; try with_reducible rfl)
        try simp only [Act.put, List.setIfInBounds_toArray, List.set_cons_zero, List.set_cons_succ]
        refine takeO 13 (some 134) (v := ?v34) rfl rfl (by kernel_rfl) (by kernel_rfl) (by kernel_rfl) (Or.inl ⟨by rfl, ?y34⟩) hHeld ?r34
        case y34 => (intro w' hSw; (try dsimp only at hSw); go_simp; try with_reducible rfl)
        try simp only [Act.put, List.setIfInBounds_toArray, List.set_cons_zero, List.set_cons_succ]
        refine takeO 14 (some 135) (v := ?v35) rfl rfl (by kernel_rfl) (by kernel_rfl) (by kernel_rfl) (Or.inl ⟨by rfl, ?y35⟩) hHeld ?r35
        case y35 => (intro w' hSw; (try dsimp only at hSw); go_simp; try with_reducible rfl)
        try simp only [Act.put, List.setIfInBounds_toArray, List.set_cons_zero, List.set_cons_succ]
        refine takeO 15 (some 136) (v := ?v36) rfl rfl (by kernel_rfl) (by kernel_rfl) (by kernel_rfl) (Or.inl ⟨by rfl, ?y36⟩) hHeld ?r36
        case y36 => (intro w' hSw; (try dsimp only at hSw); go_simp; try with_reducible rfl)
        try simp only [Act.put, List.setIfInBounds_toArray, List.set_cons_zero, List.set_cons_succ]
        refine takeO 16 (some 137) (v := ?v37) rfl rfl (by kernel_rfl) (by kernel_rfl) (by kernel_rfl) (Or.inl ⟨by rfl, ?y37⟩) hHeld ?r37
        case y37 => (intro w' hSw; (try dsimp only at hSw); go_simp; try with_reducible rfl)
        try simp only [Act.put, List.setIfInBounds_toArray, List.set_cons_zero, List.set_cons_succ]
        refine takeO 18 (some 139) (v := ?v38) rfl rfl (by kernel_rfl) (by kernel_rfl) (by kernel_rfl) (Or.inl ⟨by rfl, ?y38⟩) hHeld ?r38
        case y38 => (intro w' hSw; (try dsimp only at hSw); go_simp; try with_reducible rfl)
        try simp only [Act.put, List.setIfInBounds_toArray, List.set_cons_zero, List.set_cons_succ]
        refine takeO 19 (some 140) (v := ?v39) rfl rfl (by kernel_rfl) (by kernel_rfl) (by kernel_rfl) (Or.inl ⟨by rfl, ?y39⟩) hHeld ?r39
        case y39 => (intro w' hSw; (try dsimp only at hSw); go_simp; try with_reducible rfl)
        try simp only [Act.put, List.setIfInBounds_toArray, List.set_cons_zero, List.set_cons_succ]
        refine takeO 20 (some 141) (v := ?v40) rfl rfl (by kernel_rfl) (by kernel_rfl) (by kernel_rfl) (Or.inl ⟨by rfl, ?y40⟩) hHeld ?r40
        case y40 => (intro w' hSw; (try dsimp only at hSw); go_simp; try with_reducible rfl)
        try simp only [Act.put, List.setIfInBounds_toArray, List.set_cons_zero, List.set_cons_succ]
        refine takeO 21 (some 142) (v := ?v41) rfl rfl (by kernel_rfl) (by kernel_rfl) (by kernel_rfl) (Or.inl ⟨by rfl, ?y41⟩) hHeld ?r41
        case y41 => (intro w' hSw; (try dsimp only at hSw); go_simp; try with_reducible rfl)
        try simp only [Act.put, List.setIfInBounds_toArray, List.set_cons_zero, List.set_cons_succ]
        refine wpAnyH_ready (rs := [17]) (by kernel_rfl) (by simp) ?_
        refine AllReadyH.cons rfl (fun K hK => ?_) AllReadyH.nil
        go_simp
        refine (k3.out _ HB2).mono ?_
        rintro e V3 ⟨rfl, q3⟩
        dsimp only
        have HB3 := btrans HB2 q3
        refine hK.out _ _ HB3 (fun hHeld => ?_)
        clear hK K q3 HB2
        refine wpAnyH_ready (rs := [22]) (by kernel_rfl) (by simp) ?_
        refine AllReadyH.cons rfl (fun K hK => ?_) AllReadyH.nil
        go_simp
        refine (k4.out _ HB3).mono ?_
        rintro e V4 ⟨rfl, q4⟩
        dsimp only
        have HB4 := btrans HB3 q4
        refine hK.out _ _ HB4 (fun hHeld => ?_)
        clear hK K q4 HB3
        refine takeO 23 (some 144) (v := ?v42) rfl rfl (by kernel_rfl) (by kernel_rfl) (by kernel_rfl) (Or.inl ⟨by rfl, ?y42⟩) hHeld ?r42
        case y42 => (intro w' hSw; (try dsimp only at hSw); go_simp; try with_reducible rfl)
        try simp only [Act.put, List.setIfInBounds_toArray, List.set_cons_zero, List.set_cons_succ]
        refine takeO 24 (some 145) (v := ?v43) rfl rfl (by kernel_rfl) (by kernel_rfl) (by kernel_rfl) (Or.inl ⟨by rfl, ?y43⟩) hHeld ?r43
        case y43 => (intro w' hSw; (try dsimp only at hSw); go_simp; try with_reducible rfl)
        try simp only [Act.put, List.setIfInBounds_toArray, List.set_cons_zero, List.set_cons_succ]
        refine takeO 25 (some 8) (v := ?v44) rfl rfl (by kernel_rfl) (by kernel_rfl) (by kernel_rfl) (Or.inl ⟨by rfl, ?y44⟩) hHeld ?r44
        case y44 => (intro w' hSw; (try dsimp only at hSw); go_simp; try with_reducible rfl)
        try simp only [Act.put, List.setIfInBounds_toArray, List.set_cons_zero, List.set_cons_succ]
        refine wpAnyH_done (by kernel_rfl) (Only.on ?_) _
        clear hHeld
        go_wp2
        go_ret
        exact ⟨rfl, by have hfin := btrans HB.out HB4; first | exact hfin | exact hmb ▸ hfin⟩
    | false =>
      cases v with
      | true =>
        refine region_held (fun w' => Below W7.heap.size W7 w') 26 rfl (by kernel_rfl) (below_drewN W7 1) ?_
        intro hHeld
        refine takeO 0 (some 121) (v := ?v45) rfl rfl (by kernel_rfl) (by kernel_rfl) (by kernel_rfl) (Or.inl ⟨by rfl, ?y45⟩) hHeld ?r45
        case y45 => (intro w' hSw; (try dsimp only at hSw); go_simp; try with_reducible rfl)
        try simp only [Act.put, List.setIfInBounds_toArray, List.set_cons_zero, List.set_cons_succ]
        refine takeO 1 (some 122) (v := ?v46) rfl rfl (by kernel_rfl) (by kernel_rfl) (by kernel_rfl) (Or.inl ⟨by rfl, ?y46⟩) hHeld ?r46
        case y46 => (intro w' hSw; (try dsimp only at hSw); go_simp; try with_reducible rfl)
        try simp only [Act.put, List.setIfInBounds_toArray, List.set_cons_zero, List.set_cons_succ]
        refine takeO 2 (some 123) (v := ?v47) rfl rfl (by kernel_rfl) (by kernel_rfl) (by kernel_rfl) (Or.inl ⟨by rfl, ?y47⟩) hHeld ?r47
        case y47 => (intro w' hSw; (try dsimp only at hSw); go_simp; try with_reducible rfl)
        try simp only [Act.put, List.setIfInBounds_toArray, List.set_cons_zero, List.set_cons_succ]
        refine takeO 3 (some 124) (v := ?v48) rfl rfl (by kernel_rfl) (by kernel_rfl) (by kernel_rfl) (Or.inl ⟨by rfl, ?y48⟩) hHeld ?r48
        case y48 => (intro w' hSw; (try dsimp only at hSw); go_simp; try with_reducible rfl)
        try simp only [Act.put, List.setIfInBounds_toArray, List.set_cons_zero, List.set_cons_succ]
        refine takeO 4 (some 125) (v := ?v49) rfl rfl (by kernel_rfl) (by kernel_rfl) (by kernel_rfl) (Or.inl ⟨by rfl, ?y49⟩) hHeld ?r49
        case y49 => (intro w' hSw; (try dsimp only at hSw); go_simp; try with_reducible rfl)
        try simp only [Act.put, List.setIfInBounds_toArray, List.set_cons_zero, List.set_cons_succ]
        refine takeO 6 (some 127) (v := ?v50) rfl rfl (by kernel_rfl) (by kernel_rfl) (by kernel_rfl) (Or.inl ⟨by rfl, ?y50⟩) hHeld ?r50
        case y50 => (intro w' hSw; (try dsimp only at hSw); go_simp; try with_reducible rfl)
        try simp only [Act.put, List.setIfInBounds_toArray, List.set_cons_zero, List.set_cons_succ]
        refine takeO 7 (some 128) (v := ?v51) rfl rfl (by kernel_rfl) (by kernel_rfl) (by kernel_rfl) (Or.inl ⟨by rfl, ?y51⟩) hHeld ?r51
        case y51 => (intro w' hSw; (try dsimp only at hSw); go_simp; try with_reducible rfl)
        try simp only [Act.put, List.setIfInBounds_toArray, List.set_cons_zero, List.set_cons_succ]
        refine takeO 8 (some 129) (v := ?v52) rfl rfl (by kernel_rfl) (by kernel_rfl) (by kernel_rfl) (Or.inl ⟨by rfl, ?y52⟩) hHeld ?r52
        case y52 => (intro w' hSw; (try dsimp only at hSw); go_simp; try with_reducible rfl)
        try simp only [Act.put, List.setIfInBounds_toArray, List.set_cons_zero, List.set_cons_succ]
        refine wpAnyH_ready (rs := [5]) (by kernel_rfl) (by simp) ?_
        refine AllReadyH.cons rfl (fun K hK => ?_) AllReadyH.nil
        go_simp
        refine (k1.out _ (below_drewN W7 1)).mono ?_
        rintro e V1 ⟨rfl, q1⟩
        dsimp only
        have HB1 : Below W7.heap.size W7 V1 := Below.trans (below_drewN W7 1) q1
        refine hK.out _ _ HB1 (fun hHeld => ?_)
        clear hK K q1
        refine wpAnyH_ready (rs := [9]) (by kernel_rfl) (by simp) ?_
        refine AllReadyH.cons rfl (fun K hK => ?_) AllReadyH.nil
        go_simp
        refine (k2.out _ HB1).mono ?_
        rintro e V2 ⟨rfl, q2⟩
        dsimp only
        have HB2 := btrans HB1 q2
        refine hK.out _ _ HB2 (fun hHeld => ?_)
        clear hK K q2 HB1
        refine takeO 10 (some 131) (v := ?v53) rfl rfl (by kernel_rfl) (by kernel_rfl) (by kernel_rfl) (Or.inl ⟨by rfl, ?y53⟩) hHeld ?r53
        case y53 => (intro w' hSw; (try dsimp only at hSw); go_simp; try with_reducible rfl)
        try simp only [Act.put, List.setIfInBounds_toArray, List.set_cons_zero, List.set_cons_succ]
        refine takeO 11 (some 132) (v := ?v54) rfl rfl (by kernel_rfl) (by kernel_rfl) (by kernel_rfl) (Or.inl ⟨by rfl, ?y54⟩) hHeld ?r54
        case y54 => (intro w' hSw; (try dsimp only at hSw); go_simp; try with_reducible rfl)
        try simp only [Act.put, List.setIfInBounds_toArray, List.set_cons_zero, List.set_cons_succ]
        refine takeO 12 (some 133) (v := ?v55) rfl rfl (by kernel_rfl) (by kernel_rfl) (by kernel_rfl) (Or.inl ⟨by rfl, ?y55⟩) hHeld ?r55
        case y55 => (intro w' hSw; (try dsimp only at hSw); go_simp; try with_reducible rfl)
        try simp only [Act.put, List.setIfInBounds_toArray, List.set_cons_zero, List.set_cons_succ]
        refine takeO 13 (some 134) (v := ?v56) rfl rfl (by kernel_rfl) (by kernel_rfl) (by kernel_rfl) (Or.inl ⟨by rfl, ?y56⟩) hHeld ?r56
        case y56 => (intro w' hSw; (try dsimp only at hSw); go_simp; try with_reducible rfl)
        try simp only [Act.put, List.setIfInBounds_toArray, List.set_cons_zero, List.set_cons_succ]
        refine takeO 14 (some 135) (v := ?v57) rfl rfl (by kernel_rfl) (by kernel_rfl) (by kernel_rfl) (Or.inl ⟨by rfl, ?y57⟩) hHeld ?r57
        case y57 => (intro w' hSw; (try dsimp only at hSw); go_simp; try with_reducible rfl)
        try simp only [Act.put, List.setIfInBounds_toArray, List.set_cons_zero, List.set_cons_succ]
        refine takeO 15 (some 136) (v := ?v58) rfl rfl (by kernel_rfl) (by kernel_rfl) (by kernel_rfl) (Or.inl ⟨by rfl, ?y58⟩) hHeld ?r58
        case y58 => (intro w' hSw; (try dsimp only at hSw); go_simp; try with_reducible rfl)
        try simp only [Act.put, List.setIfInBounds_toArray, List.set_cons_zero, List.set_cons_succ]
        refine takeO 16 (some 137) (v := ?v59) rfl rfl (by kernel_rfl) (by kernel_rfl) (by kernel_rfl) (Or.inl ⟨by rfl, ?y59⟩) hHeld ?r59
        case y59 => (intro w' hSw; (try dsimp only at hSw); go_simp; try with_reducible rfl)
        try simp only [Act.put, List.setIfInBounds_toArray, List.set_cons_zero, List.set_cons_succ]
        refine takeO 18 (some 139) (v := ?v60) rfl rfl (by kernel_rfl) (by kernel_rfl) (by kernel_rfl) (Or.inl ⟨by rfl, ?y60⟩) hHeld ?r60
        case y60 => (intro w' hSw; (try dsimp only at hSw); go_simp; try with_reducible rfl)
        try simp only [Act.put, List.setIfInBounds_toArray, List.set_cons_zero, List.set_cons_succ]
        refine takeO 19 (some 140) (v := ?v61) rfl rfl (by kernel_rfl) (by kernel_rfl) (by kernel_rfl) (Or.inl ⟨by rfl, ?y61⟩) hHeld ?r61
        case y61 => (intro w' hSw; (try dsimp only at hSw); go_simp; try with_reducible rfl)
        try simp only [Act.put, List.setIfInBounds_toArray, List.set_cons_zero, List.set_cons_succ]
        refine takeO 20 (some 141) (v := ?v62) rfl rfl (by kernel_rfl) (by kernel_rfl) (by kernel_rfl) (Or.inl ⟨by rfl, ?y62⟩) hHeld ?r62
        case y62 => (intro w' hSw; (try dsimp only at hSw); go_simp; try with_reducible rfl)
        try simp only [Act.put, List.setIfInBounds_toArray, List.set_cons_zero, List.set_cons_succ]
        refine takeO 21 (some 142) (v := ?v63) rfl rfl (by kernel_rfl) (by kernel_rfl) (by kernel_rfl) (Or.inl ⟨by rfl, ?y63⟩) hHeld ?r63
        case y63 => (intro w' hSw; (try dsimp only at hSw); go_simp; try with_reducible rfl)
        try simp only [Act.put, List.setIfInBounds_toArray, List.set_cons_zero, List.set_cons_succ]
        refine wpAnyH_ready (rs := [17]) (by kernel_rfl) (by simp) ?_
        refine AllReadyH.cons rfl (fun K hK => ?_) AllReadyH.nil
        go_simp
        refine (k3.out _ HB2).mono ?_
        rintro e V3 ⟨rfl, q3⟩
        dsimp only
        have HB3 := btrans HB2 q3
        refine hK.out _ _ HB3 (fun hHeld => ?_)
        clear hK K q3 HB2
        refine wpAnyH_ready (rs := [22]) (by kernel_rfl) (by simp) ?_
        refine AllReadyH.cons rfl (fun K hK => ?_) AllReadyH.nil
        go_simp
        refine (k4.out _ HB3).mono ?_
        rintro e V4 ⟨rfl, q4⟩
        dsimp only
        have HB4 := btrans HB3 q4
        refine hK.out _ _ HB4 (fun hHeld => ?_)
        clear hK K q4 HB3
        refine takeO 23 (some 144) (v := ?v64) rfl rfl (by kernel_rfl) (by kernel_rfl) (by kernel_rfl) (Or.inl ⟨by rfl, ?y64⟩) hHeld ?r64
        case y64 => (intro w' hSw; (try dsimp only at hSw); go_simp; try with_reducible rfl)
        try simp only [Act.put, List.setIfInBounds_toArray, List.set_cons_zero, List.set_cons_succ]
        refine takeO 24 (some 145) (v := ?v65) rfl rfl (by kernel_rfl) (by kernel_rfl) (by kernel_rfl) (Or.inl ⟨by rfl, ?y65⟩) hHeld ?r65
        case y65 => (intro w' hSw; (try dsimp only at hSw); go_simp; try with_reducible rfl)
        try simp only [Act.put, List.setIfInBounds_toArray, List.set_cons_zero, List.set_cons_succ]
        refine takeO 25 (some 8) (v := ?v66) rfl rfl (by kernel_rfl) (by kernel_rfl) (by kernel_rfl) (Or.inl ⟨by rfl, ?y66⟩) hHeld ?r66
        case y66 => (intro w' hSw; (try dsimp only at hSw); go_simp; try with_reducible rfl)
        try simp only [Act.put, List.setIfInBounds_toArray, List.set_cons_zero, List.set_cons_succ]
        refine wpAnyH_done (by kernel_rfl) (Only.on ?_) _
        clear hHeld
        go_wp2
        go_ret
        exact ⟨rfl, by have hfin := btrans HB.out HB4; first | exact hfin | exact hmb ▸ hfin⟩
      | false =>
        refine region_held (fun w' => Below W7.heap.size W7 w') 26 rfl (by kernel_rfl) (below_drewN W7 1) ?_
        intro hHeld
        refine takeO 0 (some 121) (v := ?v67) rfl rfl (by kernel_rfl) (by kernel_rfl) (by kernel_rfl) (Or.inl ⟨by rfl, ?y67⟩) hHeld ?r67
        case y67 => (intro w' hSw; (try dsimp only at hSw); go_simp; try with_reducible rfl)
        try simp only [Act.put, List.setIfInBounds_toArray, List.set_cons_zero, List.set_cons_succ]
        refine takeO 1 (some 122) (v := ?v68) rfl rfl (by kernel_rfl) (by kernel_rfl) (by kernel_rfl) (Or.inl ⟨by rfl, ?y68⟩) hHeld ?r68
        case y68 => (intro w' hSw; (try dsimp only at hSw); go_simp; try with_reducible rfl)
        try simp only [Act.put, List.setIfInBounds_toArray, List.set_cons_zero, List.set_cons_succ]
        refine takeO 2 (some 123) (v := ?v69) rfl rfl (by kernel_rfl) (by kernel_rfl) (by kernel_rfl) (Or.inl ⟨by rfl, ?y69⟩) hHeld ?r69
        case y69 => (intro w' hSw; (try dsimp only at hSw); go_simp; try with_reducible rfl)
        try simp only [Act.put, List.setIfInBounds_toArray, List.set_cons_zero, List.set_cons_succ]
        refine takeO 3 (some 124) (v := ?v70) rfl rfl (by kernel_rfl) (by kernel_rfl) (by kernel_rfl) (Or.inl ⟨by rfl, ?y70⟩) hHeld ?r70
        case y70 => (intro w' hSw; (try dsimp only at hSw); go_simp; try with_reducible rfl)
        try simp only [Act.put, List.setIfInBounds_toArray, List.set_cons_zero, List.set_cons_succ]
        refine takeO 4 (some 125) (v := ?v71) rfl rfl (by kernel_rfl) (by kernel_rfl) (by kernel_rfl) (Or.inl ⟨by rfl, ?y71⟩) hHeld ?r71
        case y71 => (intro w' hSw; (try dsimp only at hSw); go_simp; try with_reducible rfl)
        try simp only [Act.put, List.setIfInBounds_toArray, List.set_cons_zero, List.set_cons_succ]
        refine takeO 6 (some 127) (v := ?v72) rfl rfl (by kernel_rfl) (by kernel_rfl) (by kernel_rfl) (Or.inl ⟨by rfl, ?y72⟩) hHeld ?r72
        case y72 => (intro w' hSw; (try dsimp only at hSw); go_simp; try with_reducible rfl)
        try simp only [Act.put, List.setIfInBounds_toArray, List.set_cons_zero, List.set_cons_succ]
        refine takeO 7 (some 128) (v := ?v73) rfl rfl (by kernel_rfl) (by kernel_rfl) (by kernel_rfl) (Or.inl ⟨by rfl, ?y73⟩) hHeld ?r73
        case y73 => (intro w' hSw; (try dsimp only at hSw); go_simp; try with_reducible rfl)
        try simp only [Act.put, List.setIfInBounds_toArray, List.set_cons_zero, List.set_cons_succ]
        refine takeO 8 (some 129) (v := ?v74) rfl rfl (by kernel_rfl) (by kernel_rfl) (by kernel_rfl) (Or.inl ⟨by rfl, ?y74⟩) hHeld ?r74
        case y74 => (intro w' hSw; (try dsimp only at hSw); go_simp; try with_reducible rfl)
        try simp only [Act.put, List.setIfInBounds_toArray, List.set_cons_zero, List.set_cons_succ]
        refine wpAnyH_ready (rs := [5]) (by kernel_rfl) (by simp) ?_
        refine AllReadyH.cons rfl (fun K hK => ?_) AllReadyH.nil
        go_simp
        refine (k1.out _ (below_drewN W7 1)).mono ?_
        rintro e V1 ⟨rfl, q1⟩
        dsimp only
        have HB1 : Below W7.heap.size W7 V1 := Below.trans (below_drewN W7 1) q1
        refine hK.out _ _ HB1 (fun hHeld => ?_)
        clear hK K q1
        refine wpAnyH_ready (rs := [9]) (by kernel_rfl) (by simp) ?_
        refine AllReadyH.cons rfl (fun K hK => ?_) AllReadyH.nil
        go_simp
        refine (k2.out _ HB1).mono ?_
        rintro e V2 ⟨rfl, q2⟩
        dsimp only
        have HB2 := btrans HB1 q2
        refine hK.out _ _ HB2 (fun hHeld => ?_)
        clear hK K q2 HB1
        refine takeO 10 (some 131) (v := ?v75) rfl rfl (by kernel_rfl) (by kernel_rfl) (by kernel_rfl) (Or.inl ⟨by rfl, ?y75⟩) hHeld ?r75
        case y75 => (intro w' hSw; (try dsimp only at hSw); go_simp; try with_reducible rfl)
        try simp only [Act.put, List.setIfInBounds_toArray, List.set_cons_zero, List.set_cons_succ]
        refine takeO 11 (some 132) (v := ?v76) rfl rfl (by kernel_rfl) (by kernel_rfl) (by kernel_rfl) (Or.inl ⟨by rfl, ?y76⟩) hHeld ?r76
        case y76 => (intro w' hSw; (try dsimp only at hSw); go_simp; try with_reducible rfl)
        try simp only [Act.put, List.setIfInBounds_toArray, List.set_cons_zero, List.set_cons_succ]
        refine takeO 12 (some 133) (v := ?v77) rfl rfl (by kernel_rfl) (by kernel_rfl) (by kernel_rfl) (Or.inl ⟨by rfl, ?y77⟩) hHeld ?r77
        case y77 => (intro w' hSw; (try dsimp only at hSw); go_simp; try with_reducible rfl)
        try simp only [Act.put, List.setIfInBounds_toArray, List.set_cons_zero, List.set_cons_succ]
        refine takeO 13 (some 134) (v := ?v78) rfl rfl (by kernel_rfl) (by kernel_rfl) (by kernel_rfl) (Or.inl ⟨by rfl, ?y78⟩) hHeld ?r78
        case y78 => (intro w' hSw; (try dsimp only at hSw); go_simp; try with_reducible rfl)
        try simp only [Act.put, List.setIfInBounds_toArray, List.set_cons_zero, List.set_cons_succ]
        refine takeO 14 (some 135) (v := ?v79) rfl rfl (by kernel_rfl) (by kernel_rfl) (by kernel_rfl) (Or.inl ⟨by rfl, ?y79⟩) hHeld ?r79
        case y79 => (intro w' hSw; (try dsimp only at hSw); go_simp; try with_reducible rfl)
        try simp only [Act.put, List.setIfInBounds_toArray, List.set_cons_zero, List.set_cons_succ]
        refine takeO 15 (some 136) (v := ?v80) rfl rfl (by kernel_rfl) (by kernel_rfl) (by kernel_rfl) (Or.inl ⟨by rfl, ?y80⟩) hHeld ?r80
        case y80 => (intro w' hSw; (try dsimp only at hSw); go_simp; try with_reducible rfl)
        try simp only [Act.put, List.setIfInBounds_toArray, List.set_cons_zero, List.set_cons_succ]
        refine takeO 16 (some 137) (v := ?v81) rfl rfl (by kernel_rfl) (by kernel_rfl) (by kernel_rfl) (Or.inl ⟨by rfl, ?y81⟩) hHeld ?r81
        case y81 => (intro w' hSw; (try dsimp only at hSw); go_simp; try with_reducible rfl)
        try simp only [Act.put, List.setIfInBounds_toArray, List.set_cons_zero, List.set_cons_succ]
        refine takeO 18 (some 139) (v := ?v82) rfl rfl (by kernel_rfl) (by kernel_rfl) (by kernel_rfl) (Or.inl ⟨by rfl, ?y82⟩) hHeld ?r82
        case y82 => (intro w' hSw; (try dsimp only at hSw); go_simp; try with_reducible rfl)
        try simp only [Act.put, List.setIfInBounds_toArray, List.set_cons_zero, List.set_cons_succ]
        refine takeO 19 (some 140) (v := ?v83) rfl rfl (by kernel_rfl) (by kernel_rfl) (by kernel_rfl) (Or.inl ⟨by rfl, ?y83⟩) hHeld ?r83
        case y83 => (intro w' hSw; (try dsimp only at hSw); go_simp; try with_reducible rfl)
        try simp only [Act.put, List.setIfInBounds_toArray, List.set_cons_zero, List.set_cons_succ]
        refine takeO 20 (some 141) (v := ?v84) rfl rfl (by kernel_rfl) (by kernel_rfl) (by kernel_rfl) (Or.inl ⟨by rfl, ?y84⟩) hHeld ?r84
        case y84 => (intro w' hSw; (try dsimp only at hSw); go_simp; try with_reducible rfl)
        try simp only [Act.put, List.setIfInBounds_toArray, List.set_cons_zero, List.set_cons_succ]
        refine takeO 21 (some 142) (v := ?v85) rfl rfl (by kernel_rfl) (by kernel_rfl) (by kernel_rfl) (Or.inl ⟨by rfl, ?y85⟩) hHeld ?r85
        case y85 => (intro w' hSw; (try dsimp only at hSw); go_simp; try with_reducible rfl)
        try simp only [Act.put, List.setIfInBounds_toArray, List.set_cons_zero, List.set_cons_succ]
        refine wpAnyH_ready (rs := [17]) (by kernel_rfl) (by simp) ?_
        refine AllReadyH.cons rfl (fun K hK => ?_) AllReadyH.nil
        go_simp
        refine (k3.out _ HB2).mono ?_
        rintro e V3 ⟨rfl, q3⟩
        dsimp only
        have HB3 := btrans HB2 q3
        refine hK.out _ _ HB3 (fun hHeld => ?_)
        clear hK K q3 HB2
        refine wpAnyH_ready (rs := [22]) (by kernel_rfl) (by simp) ?_
        refine AllReadyH.cons rfl (fun K hK => ?_) AllReadyH.nil
        go_simp
        refine (k4.out _ HB3).mono ?_
        rintro e V4 ⟨rfl, q4⟩
        dsimp only
        have HB4 := btrans HB3 q4
        refine hK.out _ _ HB4 (fun hHeld => ?_)
        clear hK K q4 HB3
        refine takeO 23 (some 144) (v := ?v86) rfl rfl (by kernel_rfl) (by kernel_rfl) (by kernel_rfl) (Or.inl ⟨by rfl, ?y86⟩) hHeld ?r86
        case y86 => (intro w' hSw; (try dsimp only at hSw); go_simp; try with_reducible rfl)
        try simp only [Act.put, List.setIfInBounds_toArray, List.set_cons_zero, List.set_cons_succ]
        refine takeO 24 (some 145) (v := ?v87) rfl rfl (by kernel_rfl) (by kernel_rfl) (by kernel_rfl) (Or.inl ⟨by rfl, ?y87⟩) hHeld ?r87
        case y87 => (intro w' hSw; (try dsimp only at hSw); go_simp; try with_reducible rfl)
        try simp only [Act.put, List.setIfInBounds_toArray, List.set_cons_zero, List.set_cons_succ]
        refine takeO 25 (some 8) (v := ?v88) rfl rfl (by kernel_rfl) (by kernel_rfl) (by kernel_rfl) (Or.inl ⟨by rfl, ?y88⟩) hHeld ?r88
        case y88 => (intro w' hSw; (try dsimp only at hSw); go_simp; try with_reducible rfl)
        try simp only [Act.put, List.setIfInBounds_toArray, List.set_cons_zero, List.set_cons_succ]
        refine wpAnyH_done (by kernel_rfl) (Only.on ?_) _
        clear hHeld
        go_wp2
        go_ret
        exact ⟨rfl, by have hfin := btrans HB.out HB4; first | exact hfin | exact hmb ▸ hfin⟩
end Go.Proofs.Ytfcaekboonnmaaa
