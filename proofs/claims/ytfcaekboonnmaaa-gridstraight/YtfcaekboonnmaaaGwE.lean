/- Layer 9 (grid): the walk of the law GridStraight. -/
import Derived.Test.YtfcaekboonnmaaaGwI
namespace Go.Proofs.Ytfcaekboonnmaaa
open Go.RowKit
set_option linter.unusedVariables false
set_option linter.unusedSimpArgs false
attribute [local go_sem ↓] Go.wp_at_zero Go.wp_at_succ

set_option maxRecDepth 100000 in
set_option maxHeartbeats 4000000 in
theorem gridStraight_walk (W D H : Int) (mp : Option Addr) (mn mc : Nat) (mf : Nat → Bool) (sp : Option Addr) (sn sc : Nat) (X Y Z : Nat → Int) (a1 a2 a3 : Int) (d : Int) (x : Int) (w : World) (hW : I64 W) (hD : I64 D) (hH : I64 H) (hm : Arg w mp mn mc fun i => .bool (mf i)) (hv : ArgW w sp sn sc X Y Z) (hX : ∀ i, I64 (X i) ∧ I64 (Y i) ∧ I64 (Z i)) (ha1 : I64 a1) (ha2 : I64 a2) (ha3 : I64 a3) (hd : I64 d) (hx : I64 x) :
    Calls Try.prog 9 #[.agg #[.int .i64 W, .int .i64 D, .int .i64 H, .slice mp mn mc, .slice sp sn sc], .agg #[.int .i64 a1, .int .i64 a2, .int .i64 a3], .int .i64 d, .int .i64 x] w fun e w' => e = .returned (.bool true) ∧ Below w.heap.size w w' := by
  have l1 := ha1.lo; have l2 := ha1.hi; have l3 := ha2.lo; have l4 := ha2.hi; have l5 := ha3.lo; have l6 := ha3.hi
  have hmx := fun ts t V => max3 (a := a1) (b := a2) (c := a3) ts t V
  have hmn := fun ts t V => min3 (a := a1) (b := a2) (c := a3) ts t V
  obtain ⟨p, hp⟩ : ∃ p, max (max a1 a2) a3 = p := ⟨_, rfl⟩
  obtain ⟨q, hq⟩ : ∃ q, min (min a1 a2) a3 = q := ⟨_, rfl⟩
  rw [hp] at hmx
  rw [hq] at hmn
  have HP := hid hp; have HQ := hid hq
  clear hp hq
  obtain ⟨g, hg⟩ : ∃ g, Int.tmod d 4194304 = g := ⟨_, rfl⟩
  have hgb : -4194304 < g ∧ g < 4194304 := by
    have h1 := Int.tmod_lt_of_pos d (show (0 : Int) < 4194304 by omega)
    have h2 := Int.lt_tmod_of_pos d (show (0 : Int) < 4194304 by omega)
    rw [hg] at h1 h2
    omega
  obtain ⟨hg1, hg2⟩ := hgb
  obtain ⟨u, hu, hub⟩ := mask (m := 255) (x := x) (k := 8) rfl (by omega)
  have htm : ∀ n : Nat, Int.tmod (n : Int) 3 = ((n % 3 : Nat) : Int) := fun n => by rw [Int.tmod_eq_emod_of_nonneg (by omega)]; omega
  have hu3 := htm u
  obtain ⟨v, hv3⟩ : ∃ v, u % 3 = v := ⟨_, rfl⟩
  have hvl : v < 3 := by omega
  rw [hv3] at hu3
  clear hv3 htm
  have hle := hm.le; have hmost := hm.most; have hsle := hv.le; have hsmost := hv.most
  obtain ⟨N, hN⟩ : ∃ N, min mn 32768 = N := ⟨_, rfl⟩
  obtain ⟨K, hK⟩ : ∃ N, min sn 70 = N := ⟨_, rfl⟩
  have hsm := fun V => lawSmall W D H mp mn mc mf sp sn sc hle hmost hsle hsmost V
  rw [hN, hK] at hsm
  have HM0 := hid (hm.cut (show N ≤ mn by omega))
  have HV0 := hid (hv.cut (show K ≤ sn by omega))
  have hsh := lawShown
  have hN1 : N ≤ 32768 := by omega
  have hK1 : K ≤ 70 := by omega
  unfold maxLen at hmost hsmost
  clear hm hv hN hK
  have B0 : Below w.heap.size w ((w.alloc (.cells #[.int .i64 W, .int .i64 D, .int .i64 H, .slice mp mn mc, .slice sp sn sc] 25)).alloc (.cells #[.int .i64 a1, .int .i64 a2, .int .i64 a3] 27)) := ((Below.refl _ _).alloc (Nat.le_refl _) _).alloc (by simp) _
  have O0 : O5 ((w.alloc (.cells #[.int .i64 W, .int .i64 D, .int .i64 H, .slice mp mn mc, .slice sp sn sc] 25)).alloc (.cells #[.int .i64 a1, .int .i64 a2, .int .i64 a3] 27)) (w.heap.size) (.int .i64 W) (.int .i64 D) (.int .i64 H) (.slice mp mn mc) (.slice sp sn sc) := (O5.new _ _ _ _ _ _).alloc _
  have a0 : B3 ((w.alloc (.cells #[.int .i64 W, .int .i64 D, .int .i64 H, .slice mp mn mc, .slice sp sn sc] 25)).alloc (.cells #[.int .i64 a1, .int .i64 a2, .int .i64 a3] 27)) (w.heap.size + 1) 27 a1 a2 a3 := B3.new' _ _ _ _ _ (by simp)
  go_enter Try.func9, Try.ntmps9
  go_wp2_with fail
  refine (hsh _).mono ?_; rintro e V1 ⟨rfl, q1⟩
  have B1 := B0.trans (q1.mono B0.size)
  have O1 := O0.keep q1
  have a00 := a0.keep q1
  clear q1 B0 O0 a0
  obtain ⟨mb, hmb⟩ : ∃ b, w.heap.size = b := ⟨_, rfl⟩
  have hwm : w.heap.size ≤ mb := by omega
  rw [hmb] at a00
  have hna : mb + 1 ≠ mb := by omega
  rw [hmb] at O1
  obtain ⟨m0, m1, m2, m3, m4⟩ := O1.cells
  try rw [hmb]
  try simp only [hmb]
  go_wp2_with fail
  refine (hsm _).mono ?_; rintro e V2 ⟨rfl, q2⟩
  have B2 := B1.trans (q2.mono B1.size)
  have O2 := O1.keep q2
  have a000 := a00.keep q2
  clear q2 B1 O1 m0 m1 m2 m3 m4 hsm hsh a00
  obtain ⟨m0, m1, m2, m3, m4⟩ := O2.cells
  obtain ⟨f0, f1, f2, f3, f4⟩ := O2.thaw
  have O3 := O2.set (.int .i64 W) (.int .i64 D) (.int .i64 H) (.slice mp N mc) (.slice sp K sc)
  have aq := a000.set5 hna (.int .i64 W) (.int .i64 D) (.int .i64 H) (.slice mp N mc) (.slice sp K sc)
  have HBs := below_set5 B2 hwm (.int .i64 W) (.int .i64 D) (.int .i64 H) (.slice mp N mc) (.slice sp K sc)
  clear O2 B2 a000
  go_upto_region 3 with fail
  clear m0 m1 m2 m3 m4 f0 f1 f2 f3 f4
  generalize ((((V2.setCell ⟨mb, 0, none⟩ (.int .i64 W)).setCell ⟨mb, 1, none⟩ (.int .i64 D)).setCell ⟨mb, 2, none⟩ (.int .i64 H)).setCell ⟨mb, 3, none⟩ (.slice mp N mc)).setCell ⟨mb, 4, none⟩ (.slice sp K sc) = U at *
  obtain ⟨m0, m1, m2, m3, m4⟩ := O3.cells
  obtain ⟨ca0, ca1, ca2⟩ := aq.cells
  have HB := hid HBs
  have HM := hid (HM0.out.keep HBs)
  have HV := hid (HV0.out.keep HBs)
  clear HBs HM0 HV0
  have e0 := fun i v (h : U.cell? ⟨mb + 1, i, none⟩ = some v) => Lib.cell?_alloc_some (.cells #[.int .i64 a1, .int .i64 a2, .int .i64 a3] 27) h
  have ea0 := e0 0 _ ca0
  have ea1 := e0 1 _ ca1
  have ea2 := e0 2 _ ca2
  clear e0
  by_cases hp1 : 1099511627776 < p
  · go_wp2
    go_ret
    exact ⟨rfl, by have hfin := HB.out.alloc HB.out.size (.cells #[.int .i64 a1, .int .i64 a2, .int .i64 a3] 27); first | exact hfin | exact hmb ▸ hfin⟩
  by_cases hq1 : q < -1099511627776
  · go_wp2
    go_ret
    exact ⟨rfl, by have hfin := HB.out.alloc HB.out.size (.cells #[.int .i64 a1, .int .i64 a2, .int .i64 a3] 27); first | exact hfin | exact hmb ▸ hfin⟩
  have hb : (-1099511627776 ≤ a1 ∧ a1 ≤ 1099511627776) ∧ (-1099511627776 ≤ a2 ∧ a2 ≤ 1099511627776) ∧ (-1099511627776 ≤ a3 ∧ a3 ≤ 1099511627776) := by
    have := HP.out; have := HQ.out; omega
  obtain ⟨⟨p1, p2⟩, ⟨p3, p4⟩, ⟨p5, p6⟩⟩ := hb
  have hv4 : v = 0 ∨ v = 1 ∨ v = 2 := by omega
  rcases hv4 with rfl | rfl | rfl
  · skip
    obtain ⟨b1, hb1⟩ : ∃ b, a1 + g = b := ⟨_, rfl⟩
    have bb : -1099515822080 ≤ b1 ∧ b1 ≤ 1099515822080 := by omega
    obtain ⟨bb1, bb1'⟩ := bb
    have hbI1 : I64 b1 := ⟨by omega, by omega⟩
    have O4 := O3.alloc (.cells #[.int .i64 b1, .int .i64 a2, .int .i64 a3] 27)
    have a4 := aq.alloc (.cells #[.int .i64 b1, .int .i64 a2, .int .i64 a3] 27)
    have x4 := B3.new U 27 b1 a2 a3
    have HB4 := HB.out.alloc HB.out.size (.cells #[.int .i64 b1, .int .i64 a2, .int .i64 a3] 27)
    have HM4 := HM.out.keep ((Below.refl U.heap.size U).alloc (Nat.le_refl _) (.cells #[.int .i64 b1, .int .i64 a2, .int .i64 a3] 27))
    go_upto_region 13 with fail
    obtain ⟨xb, hxb⟩ : ∃ b, U.heap.size = b := ⟨_, rfl⟩
    rw [hxb] at x4
    try simp only [hxb]
    generalize U.alloc (.cells #[.int .i64 b1, .int .i64 a2, .int .i64 a3] 27) = U4 at *
    clear m0 m1 m2 m3 m4 ca0 ca1 ca2 ea0 ea1 ea2 hxb hb1 hg1 hg2 hg hu3 hub
    clear O3 aq HM HB hmx hmn HP HQ hp1 hq1
    have HM := hid HM4
    have HB := hid HB4
    clear HM4 HB4
    obtain ⟨m0, m1, m2, m3, m4⟩ := O4.cells
    obtain ⟨ca0, ca1, ca2⟩ := a4.cells
    obtain ⟨cx0, cx1, cx2⟩ := x4.cells
    go_wp2_with fail
    refine (gridAt a1 a2 a3 ha1 ha2 ha3 _).mono ?_; rintro e U5 ⟨rfl, q5⟩
    clear m0 m1 m2 m3 m4 ca0 ca1 ca2 cx0 cx1 cx2
    have O5' := O4.keep q5
    have a5 := a4.keep q5
    have x5 := x4.keep q5
    have HM := hid (HM.out.keep q5)
    have HB := hid (btrans HB.out q5)
    clear q5 O4 a4 x4
    obtain ⟨cx0, cx1, cx2⟩ := x5.cells
    go_wp2_with fail
    refine (gridAt b1 a2 a3 hbI1 ha2 ha3 _).mono ?_; rintro e U6 ⟨rfl, q6⟩
    clear cx0 cx1 cx2
    have O6 := hid (O5'.keep q6)
    have a6 := hid (a5.keep q6)
    have x6 := hid (x5.keep q6)
    have HM := hid (HM.out.keep q6)
    have HB := hid (btrans HB.out q6)
    clear q6 O5' a5 x5
    obtain ⟨y1, hy1⟩ : ∃ c, min (a1 / 65536) (b1 / 65536) = c := ⟨_, rfl⟩
    obtain ⟨z1, hz1⟩ : ∃ c, max (a1 / 65536) (b1 / 65536) = c := ⟨_, rfl⟩
    have ky1 := fun ts t V => min2 (a := a1 / 65536) (b := b1 / 65536) ts t V
    have kz1 := fun ts t V => max2 (a := a1 / 65536) (b := b1 / 65536) ts t V
    rw [hy1] at ky1
    rw [hz1] at kz1
    have yb1 : -33554432 ≤ y1 ∧ y1 ≤ z1 ∧ z1 ≤ 33554432 := by omega
    obtain ⟨yb1, yz1, zb1⟩ := yb1
    obtain ⟨y2, hy2⟩ : ∃ c, min (a2 / 65536) (a2 / 65536) = c := ⟨_, rfl⟩
    obtain ⟨z2, hz2⟩ : ∃ c, max (a2 / 65536) (a2 / 65536) = c := ⟨_, rfl⟩
    have ky2 := fun ts t V => min2 (a := a2 / 65536) (b := a2 / 65536) ts t V
    have kz2 := fun ts t V => max2 (a := a2 / 65536) (b := a2 / 65536) ts t V
    rw [hy2] at ky2
    rw [hz2] at kz2
    have yb2 : -33554432 ≤ y2 ∧ y2 ≤ z2 ∧ z2 ≤ 33554432 := by omega
    obtain ⟨yb2, yz2, zb2⟩ := yb2
    obtain ⟨y3, hy3⟩ : ∃ c, min (a3 / 65536) (a3 / 65536) = c := ⟨_, rfl⟩
    obtain ⟨z3, hz3⟩ : ∃ c, max (a3 / 65536) (a3 / 65536) = c := ⟨_, rfl⟩
    have ky3 := fun ts t V => min2 (a := a3 / 65536) (b := a3 / 65536) ts t V
    have kz3 := fun ts t V => max2 (a := a3 / 65536) (b := a3 / 65536) ts t V
    rw [hy3] at ky3
    rw [hz3] at kz3
    have yb3 : -33554432 ≤ y3 ∧ y3 ≤ z3 ∧ z3 ≤ 33554432 := by omega
    obtain ⟨yb3, yz3, zb3⟩ := yb3
    have hsp : (mpOf W D H N mf).Span ⟨a1, a2, a3⟩ ⟨b1, a2, a3⟩ ↔ (mpOf W D H N mf).Cl y1 (z1 + 1) y2 (z2 + 1) y3 (z3 + 1) := by
      unfold Mp.Span Mp.Cl
      dsimp only
      rw [hy1, hy2, hy3, hz1, hz2, hz3]
      exact ⟨fun h x y z e1 e2 e3 e4 e5 e6 => h x y z e1 (by omega) e3 (by omega) e5 (by omega), fun h x y z e1 e2 e3 e4 e5 e6 => h x y z e1 (by omega) e3 (by omega) e5 (by omega)⟩
    obtain ⟨s, hs⟩ := boolOf ((mpOf W D H N mf).Sees ⟨a1, a2, a3⟩ ⟨b1, a2, a3⟩)
    have HSC := hid (hs.trans ((Mp.straight (M := mpOf W D H N mf) (a := ⟨a1, a2, a3⟩) (b := ⟨b1, a2, a3⟩) (by simp)).trans hsp))
    have HS := hid hs
    clear hs hsp hy1 hy2 hy3 hz1 hz2 hz3
    go_wp2
    go_loopw [18, 17] (fun v fv wr => ∃ (z : Int) (f : Bool), v = .int .i64 z ∧ fv = .bool f ∧ y3 ≤ z ∧ z ≤ z3 + 1 ∧ Tells f ((mpOf W D H N mf).Cl y1 (z1 + 1) y2 (z2 + 1) y3 z) ∧ Below U6.heap.size U6 wr) (fun v _ _ => (z3 + 1 - intOf v).toNat)
    case atStart => exact ⟨y3, true, rfl, rfl, Int.le_refl _, by omega, ⟨⟨fun _ => Mp.Cl.none (by omega), fun _ => rfl⟩⟩, Below.refl _ _⟩
    case round =>
      obtain ⟨z, f, rfl, rfl, hz0, hz1, hcl, hR⟩ := hrel
      by_cases hz : z ≤ z3
      · go_wp2
        go_loopw [19, 17] (fun v fv wr => ∃ (y : Int) (f : Bool), v = .int .i64 y ∧ fv = .bool f ∧ y2 ≤ y ∧ y ≤ z2 + 1 ∧ Tells f ((mpOf W D H N mf).Cl y1 (z1 + 1) y2 (z2 + 1) y3 z ∧ (mpOf W D H N mf).Cl y1 (z1 + 1) y2 y z (z + 1)) ∧ Below U6.heap.size U6 wr) (fun v _ _ => (z2 + 1 - intOf v).toNat)
        case atStart => exact ⟨y2, f, rfl, rfl, Int.le_refl _, by omega, ⟨⟨fun e => ⟨hcl.iff.1 e, Mp.Cl.none (by omega)⟩, fun e => hcl.iff.2 e.1⟩⟩, hR⟩
        case round =>
          clear hR hcl
          obtain ⟨y, f, rfl, rfl, hy0, hy1, hcl, hR⟩ := hrel
          by_cases hy : y ≤ z2
          · go_wp2
            go_loopw [20, 17] (fun v fv wr => ∃ (x : Int) (f : Bool), v = .int .i64 x ∧ fv = .bool f ∧ y1 ≤ x ∧ x ≤ z1 + 1 ∧ Tells f (((mpOf W D H N mf).Cl y1 (z1 + 1) y2 (z2 + 1) y3 z ∧ (mpOf W D H N mf).Cl y1 (z1 + 1) y2 y z (z + 1)) ∧ (mpOf W D H N mf).Cl y1 x y (y + 1) z (z + 1)) ∧ Below U6.heap.size U6 wr) (fun v _ _ => (z1 + 1 - intOf v).toNat)
            case atStart => exact ⟨y1, f, rfl, rfl, Int.le_refl _, by omega, ⟨⟨fun e => ⟨hcl.iff.1 e, Mp.Cl.none (by omega)⟩, fun e => hcl.iff.2 e.1⟩⟩, hR⟩
            case round =>
              clear hR hcl
              obtain ⟨x, f, rfl, rfl, hx0, hx1, hcl, hR⟩ := hrel
              by_cases hx : x ≤ z1
              · cases f with
                | true =>
                  obtain ⟨m0, m1, m2, m3, m4⟩ := (O6.out.keep hR).cells
                  have hA := hid (HM.out.keep hR)
                  go_wp2_with fail
                  refine (gridSolid W D H mp N mc mf sp K sc x y z _ hA.out).mono ?_; rintro e U7 ⟨rfl, q7⟩
                  have hR7 := btrans hR q7
                  clear hR q7 hA m0 m1 m2 m3 m4
                  cases hsol : (mpOf W D H N mf).solid x y z with
                  | true =>
                    have hk : Tells false (((mpOf W D H N mf).Cl y1 (z1 + 1) y2 (z2 + 1) y3 z ∧ (mpOf W D H N mf).Cl y1 (z1 + 1) y2 y z (z + 1)) ∧ (mpOf W D H N mf).Cl y1 (x + 1) y (y + 1) z (z + 1)) := ⟨⟨fun e => absurd e (by decide), fun e => absurd (e.2 x y z hx0 (by omega) (by omega) (by omega) (by omega) (by omega)) (Mp.solid_t.1 hsol)⟩⟩
                    clear hsol hcl
                    go_wp2
                    exact ⟨⟨x + 1, false, by go_num, rfl, by omega, by omega, hk, hR7⟩, by simp [intOf]; omega⟩
                  | false =>
                    have hk : Tells true (((mpOf W D H N mf).Cl y1 (z1 + 1) y2 (z2 + 1) y3 z ∧ (mpOf W D H N mf).Cl y1 (z1 + 1) y2 y z (z + 1)) ∧ (mpOf W D H N mf).Cl y1 (x + 1) y (y + 1) z (z + 1)) := ⟨⟨fun _ => ⟨(hcl.iff.1 rfl).1, (hcl.iff.1 rfl).2.x (Mp.solid_f.1 hsol)⟩, fun _ => rfl⟩⟩
                    clear hsol hcl
                    go_wp2
                    exact ⟨⟨x + 1, true, by go_num, rfl, by omega, by omega, hk, hR7⟩, by simp [intOf]; omega⟩
                | false =>
                  have hk : Tells false (((mpOf W D H N mf).Cl y1 (z1 + 1) y2 (z2 + 1) y3 z ∧ (mpOf W D H N mf).Cl y1 (z1 + 1) y2 y z (z + 1)) ∧ (mpOf W D H N mf).Cl y1 (x + 1) y (y + 1) z (z + 1)) := ⟨⟨fun e => absurd e (by decide), fun e => hcl.iff.2 ⟨e.1, fun x' y' z' c1 c2 c3 c4 c5 c6 => e.2 x' y' z' c1 (by omega) c3 c4 c5 c6⟩⟩⟩
                  clear hcl
                  go_wp2
                  exact ⟨⟨x + 1, false, by go_num, rfl, by omega, by omega, hk, hR⟩, by simp [intOf]; omega⟩
              · obtain rfl : x = z1 + 1 := by omega
                have hk : Tells f ((mpOf W D H N mf).Cl y1 (z1 + 1) y2 (z2 + 1) y3 z ∧ (mpOf W D H N mf).Cl y1 (z1 + 1) y2 (y + 1) z (z + 1)) := ⟨⟨fun e => ⟨(hcl.iff.1 e).1.1, (hcl.iff.1 e).1.2.y (hcl.iff.1 e).2⟩, fun e => hcl.iff.2 ⟨⟨e.1, fun x' y' z' c1 c2 c3 c4 c5 c6 => e.2 x' y' z' c1 c2 c3 (by omega) c5 c6⟩, fun x' y' z' c1 c2 c3 c4 c5 c6 => e.2 x' y' z' c1 c2 (by omega) c4 c5 c6⟩⟩⟩
                clear hcl
                go_wp2
                exact ⟨⟨y + 1, f, by go_num, rfl, by omega, by omega, hk, hR⟩, by simp [intOf]; omega⟩
          · obtain rfl : y = z2 + 1 := by omega
            have hk : Tells f ((mpOf W D H N mf).Cl y1 (z1 + 1) y2 (z2 + 1) y3 (z + 1)) := ⟨⟨fun e => (hcl.iff.1 e).1.z (hcl.iff.1 e).2, fun e => hcl.iff.2 ⟨fun x' y' z' c1 c2 c3 c4 c5 c6 => e x' y' z' c1 c2 c3 c4 c5 (by omega), fun x' y' z' c1 c2 c3 c4 c5 c6 => e x' y' z' c1 c2 c3 c4 (by omega) c6⟩⟩⟩
            clear hcl
            go_wp2
            exact ⟨⟨z + 1, f, by go_num, rfl, by omega, by omega, hk, hR⟩, by simp [intOf]; omega⟩
      · obtain rfl : z = z3 + 1 := by omega
        have hfs : f = s := by
          have := hcl.iff.trans HSC.out.symm
          cases f <;> cases s <;> simp_all
        subst hfs
        obtain ⟨m0, m1, m2, m3, m4⟩ := (O6.out.keep hR).cells
        obtain ⟨ca0, ca1, ca2⟩ := (a6.out.keep hR).cells
        obtain ⟨cx0, cx1, cx2⟩ := (x6.out.keep hR).cells
        have hA := hid (HM.out.keep hR)
        clear hcl HSC
        have hff : (f == f) = true := by simp
        go_wp2_with fail
        refine (gridSight W D H mp N mc mf sp K sc a1 a2 a3 b1 a2 a3 ha1 ha2 ha3 hbI1 ha2 ha3 _ hA.out f HS.out).mono ?_; rintro e U8 ⟨rfl, q8⟩
        go_wp2
        go_ret
        exact ⟨ret_bool (by simp), by have hfin := btrans (btrans HB.out hR) q8; first | exact hfin | exact hmb ▸ hfin⟩
  · skip
    obtain ⟨b2, hb2⟩ : ∃ b, a2 + g = b := ⟨_, rfl⟩
    have bb : -1099515822080 ≤ b2 ∧ b2 ≤ 1099515822080 := by omega
    obtain ⟨bb1, bb1'⟩ := bb
    have hbI2 : I64 b2 := ⟨by omega, by omega⟩
    have O4 := O3.alloc (.cells #[.int .i64 a1, .int .i64 b2, .int .i64 a3] 27)
    have a4 := aq.alloc (.cells #[.int .i64 a1, .int .i64 b2, .int .i64 a3] 27)
    have x4 := B3.new U 27 a1 b2 a3
    have HB4 := HB.out.alloc HB.out.size (.cells #[.int .i64 a1, .int .i64 b2, .int .i64 a3] 27)
    have HM4 := HM.out.keep ((Below.refl U.heap.size U).alloc (Nat.le_refl _) (.cells #[.int .i64 a1, .int .i64 b2, .int .i64 a3] 27))
    go_upto_region 13 with fail
    obtain ⟨xb, hxb⟩ : ∃ b, U.heap.size = b := ⟨_, rfl⟩
    rw [hxb] at x4
    try simp only [hxb]
    generalize U.alloc (.cells #[.int .i64 a1, .int .i64 b2, .int .i64 a3] 27) = U4 at *
    clear m0 m1 m2 m3 m4 ca0 ca1 ca2 ea0 ea1 ea2 hxb hb2 hg1 hg2 hg hu3 hub
    clear O3 aq HM HB hmx hmn HP HQ hp1 hq1
    have HM := hid HM4
    have HB := hid HB4
    clear HM4 HB4
    obtain ⟨m0, m1, m2, m3, m4⟩ := O4.cells
    obtain ⟨ca0, ca1, ca2⟩ := a4.cells
    obtain ⟨cx0, cx1, cx2⟩ := x4.cells
    go_wp2_with fail
    refine (gridAt a1 a2 a3 ha1 ha2 ha3 _).mono ?_; rintro e U5 ⟨rfl, q5⟩
    clear m0 m1 m2 m3 m4 ca0 ca1 ca2 cx0 cx1 cx2
    have O5' := O4.keep q5
    have a5 := a4.keep q5
    have x5 := x4.keep q5
    have HM := hid (HM.out.keep q5)
    have HB := hid (btrans HB.out q5)
    clear q5 O4 a4 x4
    obtain ⟨cx0, cx1, cx2⟩ := x5.cells
    go_wp2_with fail
    refine (gridAt a1 b2 a3 ha1 hbI2 ha3 _).mono ?_; rintro e U6 ⟨rfl, q6⟩
    clear cx0 cx1 cx2
    have O6 := hid (O5'.keep q6)
    have a6 := hid (a5.keep q6)
    have x6 := hid (x5.keep q6)
    have HM := hid (HM.out.keep q6)
    have HB := hid (btrans HB.out q6)
    clear q6 O5' a5 x5
    obtain ⟨y1, hy1⟩ : ∃ c, min (a1 / 65536) (a1 / 65536) = c := ⟨_, rfl⟩
    obtain ⟨z1, hz1⟩ : ∃ c, max (a1 / 65536) (a1 / 65536) = c := ⟨_, rfl⟩
    have ky1 := fun ts t V => min2 (a := a1 / 65536) (b := a1 / 65536) ts t V
    have kz1 := fun ts t V => max2 (a := a1 / 65536) (b := a1 / 65536) ts t V
    rw [hy1] at ky1
    rw [hz1] at kz1
    have yb1 : -33554432 ≤ y1 ∧ y1 ≤ z1 ∧ z1 ≤ 33554432 := by omega
    obtain ⟨yb1, yz1, zb1⟩ := yb1
    obtain ⟨y2, hy2⟩ : ∃ c, min (a2 / 65536) (b2 / 65536) = c := ⟨_, rfl⟩
    obtain ⟨z2, hz2⟩ : ∃ c, max (a2 / 65536) (b2 / 65536) = c := ⟨_, rfl⟩
    have ky2 := fun ts t V => min2 (a := a2 / 65536) (b := b2 / 65536) ts t V
    have kz2 := fun ts t V => max2 (a := a2 / 65536) (b := b2 / 65536) ts t V
    rw [hy2] at ky2
    rw [hz2] at kz2
    have yb2 : -33554432 ≤ y2 ∧ y2 ≤ z2 ∧ z2 ≤ 33554432 := by omega
    obtain ⟨yb2, yz2, zb2⟩ := yb2
    obtain ⟨y3, hy3⟩ : ∃ c, min (a3 / 65536) (a3 / 65536) = c := ⟨_, rfl⟩
    obtain ⟨z3, hz3⟩ : ∃ c, max (a3 / 65536) (a3 / 65536) = c := ⟨_, rfl⟩
    have ky3 := fun ts t V => min2 (a := a3 / 65536) (b := a3 / 65536) ts t V
    have kz3 := fun ts t V => max2 (a := a3 / 65536) (b := a3 / 65536) ts t V
    rw [hy3] at ky3
    rw [hz3] at kz3
    have yb3 : -33554432 ≤ y3 ∧ y3 ≤ z3 ∧ z3 ≤ 33554432 := by omega
    obtain ⟨yb3, yz3, zb3⟩ := yb3
    have hsp : (mpOf W D H N mf).Span ⟨a1, a2, a3⟩ ⟨a1, b2, a3⟩ ↔ (mpOf W D H N mf).Cl y1 (z1 + 1) y2 (z2 + 1) y3 (z3 + 1) := by
      unfold Mp.Span Mp.Cl
      dsimp only
      rw [hy1, hy2, hy3, hz1, hz2, hz3]
      exact ⟨fun h x y z e1 e2 e3 e4 e5 e6 => h x y z e1 (by omega) e3 (by omega) e5 (by omega), fun h x y z e1 e2 e3 e4 e5 e6 => h x y z e1 (by omega) e3 (by omega) e5 (by omega)⟩
    obtain ⟨s, hs⟩ := boolOf ((mpOf W D H N mf).Sees ⟨a1, a2, a3⟩ ⟨a1, b2, a3⟩)
    have HSC := hid (hs.trans ((Mp.straight (M := mpOf W D H N mf) (a := ⟨a1, a2, a3⟩) (b := ⟨a1, b2, a3⟩) (by simp)).trans hsp))
    have HS := hid hs
    clear hs hsp hy1 hy2 hy3 hz1 hz2 hz3
    go_wp2
    go_loopw [18, 17] (fun v fv wr => ∃ (z : Int) (f : Bool), v = .int .i64 z ∧ fv = .bool f ∧ y3 ≤ z ∧ z ≤ z3 + 1 ∧ Tells f ((mpOf W D H N mf).Cl y1 (z1 + 1) y2 (z2 + 1) y3 z) ∧ Below U6.heap.size U6 wr) (fun v _ _ => (z3 + 1 - intOf v).toNat)
    case atStart => exact ⟨y3, true, rfl, rfl, Int.le_refl _, by omega, ⟨⟨fun _ => Mp.Cl.none (by omega), fun _ => rfl⟩⟩, Below.refl _ _⟩
    case round =>
      obtain ⟨z, f, rfl, rfl, hz0, hz1, hcl, hR⟩ := hrel
      by_cases hz : z ≤ z3
      · go_wp2
        go_loopw [19, 17] (fun v fv wr => ∃ (y : Int) (f : Bool), v = .int .i64 y ∧ fv = .bool f ∧ y2 ≤ y ∧ y ≤ z2 + 1 ∧ Tells f ((mpOf W D H N mf).Cl y1 (z1 + 1) y2 (z2 + 1) y3 z ∧ (mpOf W D H N mf).Cl y1 (z1 + 1) y2 y z (z + 1)) ∧ Below U6.heap.size U6 wr) (fun v _ _ => (z2 + 1 - intOf v).toNat)
        case atStart => exact ⟨y2, f, rfl, rfl, Int.le_refl _, by omega, ⟨⟨fun e => ⟨hcl.iff.1 e, Mp.Cl.none (by omega)⟩, fun e => hcl.iff.2 e.1⟩⟩, hR⟩
        case round =>
          clear hR hcl
          obtain ⟨y, f, rfl, rfl, hy0, hy1, hcl, hR⟩ := hrel
          by_cases hy : y ≤ z2
          · go_wp2
            go_loopw [20, 17] (fun v fv wr => ∃ (x : Int) (f : Bool), v = .int .i64 x ∧ fv = .bool f ∧ y1 ≤ x ∧ x ≤ z1 + 1 ∧ Tells f (((mpOf W D H N mf).Cl y1 (z1 + 1) y2 (z2 + 1) y3 z ∧ (mpOf W D H N mf).Cl y1 (z1 + 1) y2 y z (z + 1)) ∧ (mpOf W D H N mf).Cl y1 x y (y + 1) z (z + 1)) ∧ Below U6.heap.size U6 wr) (fun v _ _ => (z1 + 1 - intOf v).toNat)
            case atStart => exact ⟨y1, f, rfl, rfl, Int.le_refl _, by omega, ⟨⟨fun e => ⟨hcl.iff.1 e, Mp.Cl.none (by omega)⟩, fun e => hcl.iff.2 e.1⟩⟩, hR⟩
            case round =>
              clear hR hcl
              obtain ⟨x, f, rfl, rfl, hx0, hx1, hcl, hR⟩ := hrel
              by_cases hx : x ≤ z1
              · cases f with
                | true =>
                  obtain ⟨m0, m1, m2, m3, m4⟩ := (O6.out.keep hR).cells
                  have hA := hid (HM.out.keep hR)
                  go_wp2_with fail
                  refine (gridSolid W D H mp N mc mf sp K sc x y z _ hA.out).mono ?_; rintro e U7 ⟨rfl, q7⟩
                  have hR7 := btrans hR q7
                  clear hR q7 hA m0 m1 m2 m3 m4
                  cases hsol : (mpOf W D H N mf).solid x y z with
                  | true =>
                    have hk : Tells false (((mpOf W D H N mf).Cl y1 (z1 + 1) y2 (z2 + 1) y3 z ∧ (mpOf W D H N mf).Cl y1 (z1 + 1) y2 y z (z + 1)) ∧ (mpOf W D H N mf).Cl y1 (x + 1) y (y + 1) z (z + 1)) := ⟨⟨fun e => absurd e (by decide), fun e => absurd (e.2 x y z hx0 (by omega) (by omega) (by omega) (by omega) (by omega)) (Mp.solid_t.1 hsol)⟩⟩
                    clear hsol hcl
                    go_wp2
                    exact ⟨⟨x + 1, false, by go_num, rfl, by omega, by omega, hk, hR7⟩, by simp [intOf]; omega⟩
                  | false =>
                    have hk : Tells true (((mpOf W D H N mf).Cl y1 (z1 + 1) y2 (z2 + 1) y3 z ∧ (mpOf W D H N mf).Cl y1 (z1 + 1) y2 y z (z + 1)) ∧ (mpOf W D H N mf).Cl y1 (x + 1) y (y + 1) z (z + 1)) := ⟨⟨fun _ => ⟨(hcl.iff.1 rfl).1, (hcl.iff.1 rfl).2.x (Mp.solid_f.1 hsol)⟩, fun _ => rfl⟩⟩
                    clear hsol hcl
                    go_wp2
                    exact ⟨⟨x + 1, true, by go_num, rfl, by omega, by omega, hk, hR7⟩, by simp [intOf]; omega⟩
                | false =>
                  have hk : Tells false (((mpOf W D H N mf).Cl y1 (z1 + 1) y2 (z2 + 1) y3 z ∧ (mpOf W D H N mf).Cl y1 (z1 + 1) y2 y z (z + 1)) ∧ (mpOf W D H N mf).Cl y1 (x + 1) y (y + 1) z (z + 1)) := ⟨⟨fun e => absurd e (by decide), fun e => hcl.iff.2 ⟨e.1, fun x' y' z' c1 c2 c3 c4 c5 c6 => e.2 x' y' z' c1 (by omega) c3 c4 c5 c6⟩⟩⟩
                  clear hcl
                  go_wp2
                  exact ⟨⟨x + 1, false, by go_num, rfl, by omega, by omega, hk, hR⟩, by simp [intOf]; omega⟩
              · obtain rfl : x = z1 + 1 := by omega
                have hk : Tells f ((mpOf W D H N mf).Cl y1 (z1 + 1) y2 (z2 + 1) y3 z ∧ (mpOf W D H N mf).Cl y1 (z1 + 1) y2 (y + 1) z (z + 1)) := ⟨⟨fun e => ⟨(hcl.iff.1 e).1.1, (hcl.iff.1 e).1.2.y (hcl.iff.1 e).2⟩, fun e => hcl.iff.2 ⟨⟨e.1, fun x' y' z' c1 c2 c3 c4 c5 c6 => e.2 x' y' z' c1 c2 c3 (by omega) c5 c6⟩, fun x' y' z' c1 c2 c3 c4 c5 c6 => e.2 x' y' z' c1 c2 (by omega) c4 c5 c6⟩⟩⟩
                clear hcl
                go_wp2
                exact ⟨⟨y + 1, f, by go_num, rfl, by omega, by omega, hk, hR⟩, by simp [intOf]; omega⟩
          · obtain rfl : y = z2 + 1 := by omega
            have hk : Tells f ((mpOf W D H N mf).Cl y1 (z1 + 1) y2 (z2 + 1) y3 (z + 1)) := ⟨⟨fun e => (hcl.iff.1 e).1.z (hcl.iff.1 e).2, fun e => hcl.iff.2 ⟨fun x' y' z' c1 c2 c3 c4 c5 c6 => e x' y' z' c1 c2 c3 c4 c5 (by omega), fun x' y' z' c1 c2 c3 c4 c5 c6 => e x' y' z' c1 c2 c3 c4 (by omega) c6⟩⟩⟩
            clear hcl
            go_wp2
            exact ⟨⟨z + 1, f, by go_num, rfl, by omega, by omega, hk, hR⟩, by simp [intOf]; omega⟩
      · obtain rfl : z = z3 + 1 := by omega
        have hfs : f = s := by
          have := hcl.iff.trans HSC.out.symm
          cases f <;> cases s <;> simp_all
        subst hfs
        obtain ⟨m0, m1, m2, m3, m4⟩ := (O6.out.keep hR).cells
        obtain ⟨ca0, ca1, ca2⟩ := (a6.out.keep hR).cells
        obtain ⟨cx0, cx1, cx2⟩ := (x6.out.keep hR).cells
        have hA := hid (HM.out.keep hR)
        clear hcl HSC
        have hff : (f == f) = true := by simp
        go_wp2_with fail
        refine (gridSight W D H mp N mc mf sp K sc a1 a2 a3 a1 b2 a3 ha1 ha2 ha3 ha1 hbI2 ha3 _ hA.out f HS.out).mono ?_; rintro e U8 ⟨rfl, q8⟩
        go_wp2
        go_ret
        exact ⟨ret_bool (by simp), by have hfin := btrans (btrans HB.out hR) q8; first | exact hfin | exact hmb ▸ hfin⟩
  · skip
    obtain ⟨b3, hb3⟩ : ∃ b, a3 + g = b := ⟨_, rfl⟩
    have bb : -1099515822080 ≤ b3 ∧ b3 ≤ 1099515822080 := by omega
    obtain ⟨bb1, bb1'⟩ := bb
    have hbI3 : I64 b3 := ⟨by omega, by omega⟩
    have O4 := O3.alloc (.cells #[.int .i64 a1, .int .i64 a2, .int .i64 b3] 27)
    have a4 := aq.alloc (.cells #[.int .i64 a1, .int .i64 a2, .int .i64 b3] 27)
    have x4 := B3.new U 27 a1 a2 b3
    have HB4 := HB.out.alloc HB.out.size (.cells #[.int .i64 a1, .int .i64 a2, .int .i64 b3] 27)
    have HM4 := HM.out.keep ((Below.refl U.heap.size U).alloc (Nat.le_refl _) (.cells #[.int .i64 a1, .int .i64 a2, .int .i64 b3] 27))
    go_upto_region 13 with fail
    obtain ⟨xb, hxb⟩ : ∃ b, U.heap.size = b := ⟨_, rfl⟩
    rw [hxb] at x4
    try simp only [hxb]
    generalize U.alloc (.cells #[.int .i64 a1, .int .i64 a2, .int .i64 b3] 27) = U4 at *
    clear m0 m1 m2 m3 m4 ca0 ca1 ca2 ea0 ea1 ea2 hxb hb3 hg1 hg2 hg hu3 hub
    clear O3 aq HM HB hmx hmn HP HQ hp1 hq1
    have HM := hid HM4
    have HB := hid HB4
    clear HM4 HB4
    obtain ⟨m0, m1, m2, m3, m4⟩ := O4.cells
    obtain ⟨ca0, ca1, ca2⟩ := a4.cells
    obtain ⟨cx0, cx1, cx2⟩ := x4.cells
    go_wp2_with fail
    refine (gridAt a1 a2 a3 ha1 ha2 ha3 _).mono ?_; rintro e U5 ⟨rfl, q5⟩
    clear m0 m1 m2 m3 m4 ca0 ca1 ca2 cx0 cx1 cx2
    have O5' := O4.keep q5
    have a5 := a4.keep q5
    have x5 := x4.keep q5
    have HM := hid (HM.out.keep q5)
    have HB := hid (btrans HB.out q5)
    clear q5 O4 a4 x4
    obtain ⟨cx0, cx1, cx2⟩ := x5.cells
    go_wp2_with fail
    refine (gridAt a1 a2 b3 ha1 ha2 hbI3 _).mono ?_; rintro e U6 ⟨rfl, q6⟩
    clear cx0 cx1 cx2
    have O6 := hid (O5'.keep q6)
    have a6 := hid (a5.keep q6)
    have x6 := hid (x5.keep q6)
    have HM := hid (HM.out.keep q6)
    have HB := hid (btrans HB.out q6)
    clear q6 O5' a5 x5
    obtain ⟨y1, hy1⟩ : ∃ c, min (a1 / 65536) (a1 / 65536) = c := ⟨_, rfl⟩
    obtain ⟨z1, hz1⟩ : ∃ c, max (a1 / 65536) (a1 / 65536) = c := ⟨_, rfl⟩
    have ky1 := fun ts t V => min2 (a := a1 / 65536) (b := a1 / 65536) ts t V
    have kz1 := fun ts t V => max2 (a := a1 / 65536) (b := a1 / 65536) ts t V
    rw [hy1] at ky1
    rw [hz1] at kz1
    have yb1 : -33554432 ≤ y1 ∧ y1 ≤ z1 ∧ z1 ≤ 33554432 := by omega
    obtain ⟨yb1, yz1, zb1⟩ := yb1
    obtain ⟨y2, hy2⟩ : ∃ c, min (a2 / 65536) (a2 / 65536) = c := ⟨_, rfl⟩
    obtain ⟨z2, hz2⟩ : ∃ c, max (a2 / 65536) (a2 / 65536) = c := ⟨_, rfl⟩
    have ky2 := fun ts t V => min2 (a := a2 / 65536) (b := a2 / 65536) ts t V
    have kz2 := fun ts t V => max2 (a := a2 / 65536) (b := a2 / 65536) ts t V
    rw [hy2] at ky2
    rw [hz2] at kz2
    have yb2 : -33554432 ≤ y2 ∧ y2 ≤ z2 ∧ z2 ≤ 33554432 := by omega
    obtain ⟨yb2, yz2, zb2⟩ := yb2
    obtain ⟨y3, hy3⟩ : ∃ c, min (a3 / 65536) (b3 / 65536) = c := ⟨_, rfl⟩
    obtain ⟨z3, hz3⟩ : ∃ c, max (a3 / 65536) (b3 / 65536) = c := ⟨_, rfl⟩
    have ky3 := fun ts t V => min2 (a := a3 / 65536) (b := b3 / 65536) ts t V
    have kz3 := fun ts t V => max2 (a := a3 / 65536) (b := b3 / 65536) ts t V
    rw [hy3] at ky3
    rw [hz3] at kz3
    have yb3 : -33554432 ≤ y3 ∧ y3 ≤ z3 ∧ z3 ≤ 33554432 := by omega
    obtain ⟨yb3, yz3, zb3⟩ := yb3
    have hsp : (mpOf W D H N mf).Span ⟨a1, a2, a3⟩ ⟨a1, a2, b3⟩ ↔ (mpOf W D H N mf).Cl y1 (z1 + 1) y2 (z2 + 1) y3 (z3 + 1) := by
      unfold Mp.Span Mp.Cl
      dsimp only
      rw [hy1, hy2, hy3, hz1, hz2, hz3]
      exact ⟨fun h x y z e1 e2 e3 e4 e5 e6 => h x y z e1 (by omega) e3 (by omega) e5 (by omega), fun h x y z e1 e2 e3 e4 e5 e6 => h x y z e1 (by omega) e3 (by omega) e5 (by omega)⟩
    obtain ⟨s, hs⟩ := boolOf ((mpOf W D H N mf).Sees ⟨a1, a2, a3⟩ ⟨a1, a2, b3⟩)
    have HSC := hid (hs.trans ((Mp.straight (M := mpOf W D H N mf) (a := ⟨a1, a2, a3⟩) (b := ⟨a1, a2, b3⟩) (by simp)).trans hsp))
    have HS := hid hs
    clear hs hsp hy1 hy2 hy3 hz1 hz2 hz3
    go_wp2
    go_loopw [18, 17] (fun v fv wr => ∃ (z : Int) (f : Bool), v = .int .i64 z ∧ fv = .bool f ∧ y3 ≤ z ∧ z ≤ z3 + 1 ∧ Tells f ((mpOf W D H N mf).Cl y1 (z1 + 1) y2 (z2 + 1) y3 z) ∧ Below U6.heap.size U6 wr) (fun v _ _ => (z3 + 1 - intOf v).toNat)
    case atStart => exact ⟨y3, true, rfl, rfl, Int.le_refl _, by omega, ⟨⟨fun _ => Mp.Cl.none (by omega), fun _ => rfl⟩⟩, Below.refl _ _⟩
    case round =>
      obtain ⟨z, f, rfl, rfl, hz0, hz1, hcl, hR⟩ := hrel
      by_cases hz : z ≤ z3
      · go_wp2
        go_loopw [19, 17] (fun v fv wr => ∃ (y : Int) (f : Bool), v = .int .i64 y ∧ fv = .bool f ∧ y2 ≤ y ∧ y ≤ z2 + 1 ∧ Tells f ((mpOf W D H N mf).Cl y1 (z1 + 1) y2 (z2 + 1) y3 z ∧ (mpOf W D H N mf).Cl y1 (z1 + 1) y2 y z (z + 1)) ∧ Below U6.heap.size U6 wr) (fun v _ _ => (z2 + 1 - intOf v).toNat)
        case atStart => exact ⟨y2, f, rfl, rfl, Int.le_refl _, by omega, ⟨⟨fun e => ⟨hcl.iff.1 e, Mp.Cl.none (by omega)⟩, fun e => hcl.iff.2 e.1⟩⟩, hR⟩
        case round =>
          clear hR hcl
          obtain ⟨y, f, rfl, rfl, hy0, hy1, hcl, hR⟩ := hrel
          by_cases hy : y ≤ z2
          · go_wp2
            go_loopw [20, 17] (fun v fv wr => ∃ (x : Int) (f : Bool), v = .int .i64 x ∧ fv = .bool f ∧ y1 ≤ x ∧ x ≤ z1 + 1 ∧ Tells f (((mpOf W D H N mf).Cl y1 (z1 + 1) y2 (z2 + 1) y3 z ∧ (mpOf W D H N mf).Cl y1 (z1 + 1) y2 y z (z + 1)) ∧ (mpOf W D H N mf).Cl y1 x y (y + 1) z (z + 1)) ∧ Below U6.heap.size U6 wr) (fun v _ _ => (z1 + 1 - intOf v).toNat)
            case atStart => exact ⟨y1, f, rfl, rfl, Int.le_refl _, by omega, ⟨⟨fun e => ⟨hcl.iff.1 e, Mp.Cl.none (by omega)⟩, fun e => hcl.iff.2 e.1⟩⟩, hR⟩
            case round =>
              clear hR hcl
              obtain ⟨x, f, rfl, rfl, hx0, hx1, hcl, hR⟩ := hrel
              by_cases hx : x ≤ z1
              · cases f with
                | true =>
                  obtain ⟨m0, m1, m2, m3, m4⟩ := (O6.out.keep hR).cells
                  have hA := hid (HM.out.keep hR)
                  go_wp2_with fail
                  refine (gridSolid W D H mp N mc mf sp K sc x y z _ hA.out).mono ?_; rintro e U7 ⟨rfl, q7⟩
                  have hR7 := btrans hR q7
                  clear hR q7 hA m0 m1 m2 m3 m4
                  cases hsol : (mpOf W D H N mf).solid x y z with
                  | true =>
                    have hk : Tells false (((mpOf W D H N mf).Cl y1 (z1 + 1) y2 (z2 + 1) y3 z ∧ (mpOf W D H N mf).Cl y1 (z1 + 1) y2 y z (z + 1)) ∧ (mpOf W D H N mf).Cl y1 (x + 1) y (y + 1) z (z + 1)) := ⟨⟨fun e => absurd e (by decide), fun e => absurd (e.2 x y z hx0 (by omega) (by omega) (by omega) (by omega) (by omega)) (Mp.solid_t.1 hsol)⟩⟩
                    clear hsol hcl
                    go_wp2
                    exact ⟨⟨x + 1, false, by go_num, rfl, by omega, by omega, hk, hR7⟩, by simp [intOf]; omega⟩
                  | false =>
                    have hk : Tells true (((mpOf W D H N mf).Cl y1 (z1 + 1) y2 (z2 + 1) y3 z ∧ (mpOf W D H N mf).Cl y1 (z1 + 1) y2 y z (z + 1)) ∧ (mpOf W D H N mf).Cl y1 (x + 1) y (y + 1) z (z + 1)) := ⟨⟨fun _ => ⟨(hcl.iff.1 rfl).1, (hcl.iff.1 rfl).2.x (Mp.solid_f.1 hsol)⟩, fun _ => rfl⟩⟩
                    clear hsol hcl
                    go_wp2
                    exact ⟨⟨x + 1, true, by go_num, rfl, by omega, by omega, hk, hR7⟩, by simp [intOf]; omega⟩
                | false =>
                  have hk : Tells false (((mpOf W D H N mf).Cl y1 (z1 + 1) y2 (z2 + 1) y3 z ∧ (mpOf W D H N mf).Cl y1 (z1 + 1) y2 y z (z + 1)) ∧ (mpOf W D H N mf).Cl y1 (x + 1) y (y + 1) z (z + 1)) := ⟨⟨fun e => absurd e (by decide), fun e => hcl.iff.2 ⟨e.1, fun x' y' z' c1 c2 c3 c4 c5 c6 => e.2 x' y' z' c1 (by omega) c3 c4 c5 c6⟩⟩⟩
                  clear hcl
                  go_wp2
                  exact ⟨⟨x + 1, false, by go_num, rfl, by omega, by omega, hk, hR⟩, by simp [intOf]; omega⟩
              · obtain rfl : x = z1 + 1 := by omega
                have hk : Tells f ((mpOf W D H N mf).Cl y1 (z1 + 1) y2 (z2 + 1) y3 z ∧ (mpOf W D H N mf).Cl y1 (z1 + 1) y2 (y + 1) z (z + 1)) := ⟨⟨fun e => ⟨(hcl.iff.1 e).1.1, (hcl.iff.1 e).1.2.y (hcl.iff.1 e).2⟩, fun e => hcl.iff.2 ⟨⟨e.1, fun x' y' z' c1 c2 c3 c4 c5 c6 => e.2 x' y' z' c1 c2 c3 (by omega) c5 c6⟩, fun x' y' z' c1 c2 c3 c4 c5 c6 => e.2 x' y' z' c1 c2 (by omega) c4 c5 c6⟩⟩⟩
                clear hcl
                go_wp2
                exact ⟨⟨y + 1, f, by go_num, rfl, by omega, by omega, hk, hR⟩, by simp [intOf]; omega⟩
          · obtain rfl : y = z2 + 1 := by omega
            have hk : Tells f ((mpOf W D H N mf).Cl y1 (z1 + 1) y2 (z2 + 1) y3 (z + 1)) := ⟨⟨fun e => (hcl.iff.1 e).1.z (hcl.iff.1 e).2, fun e => hcl.iff.2 ⟨fun x' y' z' c1 c2 c3 c4 c5 c6 => e x' y' z' c1 c2 c3 c4 c5 (by omega), fun x' y' z' c1 c2 c3 c4 c5 c6 => e x' y' z' c1 c2 c3 c4 (by omega) c6⟩⟩⟩
            clear hcl
            go_wp2
            exact ⟨⟨z + 1, f, by go_num, rfl, by omega, by omega, hk, hR⟩, by simp [intOf]; omega⟩
      · obtain rfl : z = z3 + 1 := by omega
        have hfs : f = s := by
          have := hcl.iff.trans HSC.out.symm
          cases f <;> cases s <;> simp_all
        subst hfs
        obtain ⟨m0, m1, m2, m3, m4⟩ := (O6.out.keep hR).cells
        obtain ⟨ca0, ca1, ca2⟩ := (a6.out.keep hR).cells
        obtain ⟨cx0, cx1, cx2⟩ := (x6.out.keep hR).cells
        have hA := hid (HM.out.keep hR)
        clear hcl HSC
        have hff : (f == f) = true := by simp
        go_wp2_with fail
        refine (gridSight W D H mp N mc mf sp K sc a1 a2 a3 a1 a2 b3 ha1 ha2 ha3 ha1 ha2 hbI3 _ hA.out f HS.out).mono ?_; rintro e U8 ⟨rfl, q8⟩
        go_wp2
        go_ret
        exact ⟨ret_bool (by simp), by have hfin := btrans (btrans HB.out hR) q8; first | exact hfin | exact hmb ▸ hfin⟩
end Go.Proofs.Ytfcaekboonnmaaa
