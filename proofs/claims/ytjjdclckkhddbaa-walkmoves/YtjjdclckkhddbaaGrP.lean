/- Layer 9 (grid): the contract of the document's own answer Clear. -/
import Derived.Test.YtjjdclckkhddbaaGrO
namespace Go.Proofs.Ytjjdclckkhddbaa
open Go.RowKit
set_option linter.unusedVariables false
set_option linter.unusedSimpArgs false
attribute [local go_sem ↓] Go.wp_at_zero Go.wp_at_succ

/-- So it is at all cells of these. -/
def Cb (F : Int → Int → Int → Prop) (x0 x1 y0 y1 z0 z1 : Int) : Prop := ∀ x y z : Int, x0 ≤ x → x < x1 → y0 ≤ y → y < y1 → z0 ≤ z → z < z1 → F x y z
theorem Cb.none {F : Int → Int → Int → Prop} {x0 x1 y0 y1 z0 z1 : Int} (h : x1 ≤ x0 ∨ y1 ≤ y0 ∨ z1 ≤ z0) : Cb F x0 x1 y0 y1 z0 z1 := fun x y z _ _ _ _ _ _ => by omega
theorem Cb.x {F : Int → Int → Int → Prop} {x0 x1 y z : Int} (h : Cb F x0 x1 y (y + 1) z (z + 1)) (k : F x1 y z) : Cb F x0 (x1 + 1) y (y + 1) z (z + 1) := fun x' y' z' a b c d e f => by
  have hy : y' = y := by omega
  have hz : z' = z := by omega
  subst hy; subst hz
  by_cases hx : x' = x1
  · rw [hx]; exact k
  · exact h _ _ _ a (by omega) c d e f
theorem Cb.y {F : Int → Int → Int → Prop} {x0 x1 y0 y1 z : Int} (h : Cb F x0 x1 y0 y1 z (z + 1)) (k : Cb F x0 x1 y1 (y1 + 1) z (z + 1)) : Cb F x0 x1 y0 (y1 + 1) z (z + 1) := fun x' y' z' a b c d e f => by
  by_cases hy : y' < y1
  · exact h _ _ _ a b c hy e f
  · exact k _ _ _ a b (by omega) d e f
theorem Cb.z {F : Int → Int → Int → Prop} {x0 x1 y0 y1 z0 z1 : Int} (h : Cb F x0 x1 y0 y1 z0 z1) (k : Cb F x0 x1 y0 y1 z1 (z1 + 1)) : Cb F x0 x1 y0 y1 z0 (z1 + 1) := fun x' y' z' a b c d e f => by
  by_cases hz : z' < z1
  · exact h _ _ _ a b c d e hz
  · exact k _ _ _ a b c d (by omega) f
/-- A cell of a box is free, should it be one of the box. -/
def Mp.Bx (M : Mp) (x0 x1 y0 y1 z0 z1 : Int) (x y z : Int) : Prop := (x0 ≤ x ∧ x < x1) → (y0 ≤ y ∧ y < y1) → (z0 ≤ z ∧ z < z1) → M.Free x y z
theorem Mp.cl_cb {M : Mp} {x0 x1 y0 y1 z0 z1 : Int} (hx : 0 ≤ x0 ∧ x1 ≤ M.W) (hy : 0 ≤ y0 ∧ y1 ≤ M.D) (hz : 0 ≤ z0 ∧ z1 ≤ M.H) : M.Cl x0 x1 y0 y1 z0 z1 ↔ Cb (M.Bx x0 x1 y0 y1 z0 z1) 0 M.W 0 M.D 0 M.H :=
  ⟨fun h x y z _ _ _ _ _ _ a b c => h x y z a.1 a.2 b.1 b.2 c.1 c.2, fun h x y z a b c d e f => h x y z (by omega) (by omega) (by omega) (by omega) (by omega) (by omega) ⟨a, b⟩ ⟨c, d⟩ ⟨e, f⟩⟩

set_option maxHeartbeats 2000000 in
theorem refClearIn (W D H : Int) (mp : Option Addr) (mn mc : Nat) (mf : Nat → Bool) (sp : Option Addr) (sn sc : Nat) (a1 a2 a3 : Int) (b1 b2 b3 : Int) (ha1 : I64 a1) (ha2 : I64 a2) (ha3 : I64 a3) (hb1 : I64 b1) (hb2 : I64 b2) (hb3 : I64 b3) (h1 : a1 < b1) (h2 : a2 < b2) (h3 : a3 < b3) (w : World) (hm : Arg w mp mn mc fun i => .bool (mf i)) (s : Bool)
    (hs : s = true ↔ (mpOf W D H mn mf).Cl (a1 / 65536) ((b1 - 1) / 65536 + 1) (a2 / 65536) ((b2 - 1) / 65536 + 1) (a3 / 65536) ((b3 - 1) / 65536 + 1)) :
    Calls Try.prog 34 #[.agg #[.int .i64 W, .int .i64 D, .int .i64 H, .slice mp mn mc, .slice sp sn sc], .agg #[.int .i64 a1, .int .i64 a2, .int .i64 a3], .agg #[.int .i64 b1, .int .i64 b2, .int .i64 b3]] w fun e w' => e = .returned (.bool s) ∧ Below w.heap.size w w' := by
  have i1 := ha1.lo; have i2 := ha1.hi; have i3 := ha2.lo; have i4 := ha2.hi; have i5 := ha3.lo; have i6 := ha3.hi
  have j1 := hb1.lo; have j2 := hb1.hi; have j3 := hb2.lo; have j4 := hb2.hi; have j5 := hb3.lo; have j6 := hb3.hi
  have hsz := fun V => refSized W D H mp mn mc mf sp sn sc V
  have hn := fun ts t V => min3 (a := a1) (b := a2) (c := a3) ts t V
  obtain ⟨p, hp⟩ : ∃ p, min (min a1 a2) a3 = p := ⟨_, rfl⟩
  rw [hp] at hn
  have A0 : B3 (((w.alloc (.cells #[.int .i64 W, .int .i64 D, .int .i64 H, .slice mp mn mc, .slice sp sn sc] 25)).alloc (.cells #[.int .i64 a1, .int .i64 a2, .int .i64 a3] 27)).alloc (.cells #[.int .i64 b1, .int .i64 b2, .int .i64 b3] 27)) (w.heap.size + 1) 27 a1 a2 a3 := (B3.new' _ _ _ _ _ (by simp)).alloc _
  have C0 : B3 (((w.alloc (.cells #[.int .i64 W, .int .i64 D, .int .i64 H, .slice mp mn mc, .slice sp sn sc] 25)).alloc (.cells #[.int .i64 a1, .int .i64 a2, .int .i64 a3] 27)).alloc (.cells #[.int .i64 b1, .int .i64 b2, .int .i64 b3] 27)) (w.heap.size + 1 + 1) 27 b1 b2 b3 := B3.new' _ _ _ _ _ (by simp)
  have M0 := (((MapAt.new w W D H (.slice mp mn mc) (.slice sp sn sc) 25)).alloc (.cells #[.int .i64 a1, .int .i64 a2, .int .i64 a3] 27)).alloc (.cells #[.int .i64 b1, .int .i64 b2, .int .i64 b3] 27)
  have B0 : Below w.heap.size w (((w.alloc (.cells #[.int .i64 W, .int .i64 D, .int .i64 H, .slice mp mn mc, .slice sp sn sc] 25)).alloc (.cells #[.int .i64 a1, .int .i64 a2, .int .i64 a3] 27)).alloc (.cells #[.int .i64 b1, .int .i64 b2, .int .i64 b3] 27)) := (((Below.refl _ _).alloc (Nat.le_refl _) _).alloc (by simp) _).alloc (by simp; omega) _
  have HA0 := hid A0; have HC0 := hid C0; have HM0 := hid M0; have HB0 := hid B0
  clear A0 C0 M0 B0
  by_cases hsd : (mpOf W D H mn mf).Sized
  · rw [decide_eq_true hsd] at hsz
    by_cases k0 : p < 0
    · have hF : s = false := by
        cases s with
        | false => rfl
        | true =>
          have := hs.1 rfl (a1 / 65536) (a2 / 65536) (a3 / 65536) (Int.le_refl _) (by omega) (Int.le_refl _) (by omega) (Int.le_refl _) (by omega)
          obtain ⟨_, q1, q2, q3, q4, q5, q6, _⟩ := this
          omega
      subst hF
      clear hs hp
      go_enter Try.func34, Try.ntmps34
      go_wp2_with fail
      refine (hsz _).mono ?_; rintro e W1 ⟨rfl, q⟩
      obtain ⟨_, m0, m1, m2, m3, m4⟩ := HM0.out.keep q
      obtain ⟨c0, c1, c2⟩ := (HA0.out.keep q).cells
      obtain ⟨d0, d1, d2⟩ := (HC0.out.keep q).cells
      go_wp2
      go_ret
      exact ⟨rfl, btrans HB0.out q⟩
    · have ⟨s1, s2, s3, s4, s5, s6, s7⟩ := hsd
      dsimp only [mpOf] at s1 s2 s3 s4 s5 s6 s7
      by_cases k1 : W * 65536 < b1
      · have hF : s = false := by
          cases s with
          | false => rfl
          | true =>
            have := hs.1 rfl ((b1 - 1) / 65536) (a2 / 65536) (a3 / 65536) (by omega) (by omega) (Int.le_refl _) (by omega) (Int.le_refl _) (by omega)
            obtain ⟨_, q1, q2, q3, q4, q5, q6, _⟩ := this
            dsimp only [mpOf] at q2
            omega
        subst hF
        clear hs hp
        go_enter Try.func34, Try.ntmps34
        go_wp2_with fail
        refine (hsz _).mono ?_; rintro e W1 ⟨rfl, q⟩
        obtain ⟨_, m0, m1, m2, m3, m4⟩ := HM0.out.keep q
        obtain ⟨c0, c1, c2⟩ := (HA0.out.keep q).cells
        obtain ⟨d0, d1, d2⟩ := (HC0.out.keep q).cells
        go_wp2
        go_ret
        exact ⟨rfl, btrans HB0.out q⟩
      · by_cases k2 : D * 65536 < b2
        · have hF : s = false := by
            cases s with
            | false => rfl
            | true =>
              have := hs.1 rfl (a1 / 65536) ((b2 - 1) / 65536) (a3 / 65536) (Int.le_refl _) (by omega) (by omega) (by omega) (Int.le_refl _) (by omega)
              obtain ⟨_, q1, q2, q3, q4, q5, q6, _⟩ := this
              dsimp only [mpOf] at q4
              omega
          subst hF
          clear hs hp
          go_enter Try.func34, Try.ntmps34
          go_wp2_with fail
          refine (hsz _).mono ?_; rintro e W1 ⟨rfl, q⟩
          obtain ⟨_, m0, m1, m2, m3, m4⟩ := HM0.out.keep q
          obtain ⟨c0, c1, c2⟩ := (HA0.out.keep q).cells
          obtain ⟨d0, d1, d2⟩ := (HC0.out.keep q).cells
          go_wp2
          go_ret
          exact ⟨rfl, btrans HB0.out q⟩
        · by_cases k3 : H * 65536 < b3
          · have hF : s = false := by
              cases s with
              | false => rfl
              | true =>
                have := hs.1 rfl (a1 / 65536) (a2 / 65536) ((b3 - 1) / 65536) (Int.le_refl _) (by omega) (Int.le_refl _) (by omega) (by omega) (by omega)
                obtain ⟨_, q1, q2, q3, q4, q5, q6, _⟩ := this
                dsimp only [mpOf] at q6
                omega
            subst hF
            clear hs hp
            go_enter Try.func34, Try.ntmps34
            go_wp2_with fail
            refine (hsz _).mono ?_; rintro e W1 ⟨rfl, q⟩
            obtain ⟨_, m0, m1, m2, m3, m4⟩ := HM0.out.keep q
            obtain ⟨c0, c1, c2⟩ := (HA0.out.keep q).cells
            obtain ⟨d0, d1, d2⟩ := (HC0.out.keep q).cells
            go_wp2
            go_ret
            exact ⟨rfl, btrans HB0.out q⟩
          · have HS := hid (hs.trans (Mp.cl_cb (M := (mpOf W D H mn mf)) ⟨by omega, by dsimp only [mpOf]; omega⟩ ⟨by omega, by dsimp only [mpOf]; omega⟩ ⟨by omega, by dsimp only [mpOf]; omega⟩))
            clear hs hp
            obtain ⟨x0, hx0⟩ : ∃ x, a1 / 65536 = x := ⟨_, rfl⟩
            obtain ⟨y0, hy0⟩ : ∃ x, a2 / 65536 = x := ⟨_, rfl⟩
            obtain ⟨z0, hz0⟩ : ∃ x, a3 / 65536 = x := ⟨_, rfl⟩
            obtain ⟨x1, hx1⟩ : ∃ x, (b1 - 1) / 65536 + 1 = x := ⟨_, rfl⟩
            obtain ⟨y1, hy1⟩ : ∃ x, (b2 - 1) / 65536 + 1 = x := ⟨_, rfl⟩
            obtain ⟨z1, hz1⟩ : ∃ x, (b3 - 1) / 65536 + 1 = x := ⟨_, rfl⟩
            have KM1 := hid (fun c V (g0 : 0 ≤ c) (g1 : c ≤ 32) => refMeets c a1 b1 ha1 hb1 h1 g0 g1 V)
            have KM2 := hid (fun c V (g0 : 0 ≤ c) (g1 : c ≤ 32) => refMeets c a2 b2 ha2 hb2 h2 g0 g1 V)
            have KM3 := hid (fun c V (g0 : 0 ≤ c) (g1 : c ≤ 32) => refMeets c a3 b3 ha3 hb3 h3 g0 g1 V)
            rw [hx0, hy0, hz0, hx1, hy1, hz1] at HS
            rw [hx0, hx1] at KM1
            rw [hy0, hy1] at KM2
            rw [hz0, hz1] at KM3
            dsimp only [mpOf] at HS
            clear hx0 hy0 hz0 hx1 hy1 hz1
            go_enter Try.func34, Try.ntmps34
            go_wp2_with fail
            refine (hsz _).mono ?_; rintro e W1 ⟨rfl, q⟩
            have HM := hid (HM0.out.keep q)
            have HA := hid (HA0.out.keep q)
            have HC := hid (HC0.out.keep q)
            have HB := hid (btrans HB0.out q)
            have HR := hid (hm.keep HB.out)
            obtain ⟨_, m0, m1, m2, m3, m4⟩ := HM.out
            obtain ⟨c0, c1, c2⟩ := HA.out.cells
            obtain ⟨d0, d1, d2⟩ := HC.out.cells
            clear HM0 HA0 HC0 HB0 hsz q hm
            go_wp2
            clear m0 m1 m2 m3 m4 c0 c1 c2 d0 d1 d2 hn k0 k1 k2 k3
            go_loopw [8] (fun v wr => ∃ z : Int, v = .int .i64 z ∧ 0 ≤ z ∧ z ≤ H ∧ Hid (Cb ((mpOf W D H mn mf).Bx x0 x1 y0 y1 z0 z1) 0 W 0 D 0 z) ∧ Below W1.heap.size W1 wr) (fun v _ => (H - intOf v).toNat)
            case atStart => exact ⟨0, rfl, Int.le_refl _, by omega, hid (Cb.none (by omega)), Below.refl _ _⟩
            case round =>
              obtain ⟨z, rfl, hz0, hz1, hcl, hB⟩ := hrel
              obtain ⟨_, m0, m1, m2, m3, m4⟩ := HM.out.keep hB
              by_cases hz : z < H
              · go_wp2
                go_loopw [9] (fun v wr => ∃ y : Int, v = .int .i64 y ∧ 0 ≤ y ∧ y ≤ D ∧ Hid (Cb ((mpOf W D H mn mf).Bx x0 x1 y0 y1 z0 z1) 0 W 0 y z (z + 1)) ∧ Below W1.heap.size W1 wr) (fun v _ => (D - intOf v).toNat)
                case atStart => exact ⟨0, rfl, Int.le_refl _, by omega, hid (Cb.none (by omega)), hB⟩
                case round =>
                  clear hB m0 m1 m2 m3 m4
                  obtain ⟨y, rfl, hy0, hy1, hcly, hB⟩ := hrel
                  obtain ⟨_, m0, m1, m2, m3, m4⟩ := HM.out.keep hB
                  by_cases hy : y < D
                  · go_wp2
                    go_loopw [10] (fun v wr => ∃ x : Int, v = .int .i64 x ∧ 0 ≤ x ∧ x ≤ W ∧ Hid (Cb ((mpOf W D H mn mf).Bx x0 x1 y0 y1 z0 z1) 0 x y (y + 1) z (z + 1)) ∧ Below W1.heap.size W1 wr) (fun v _ => (W - intOf v).toNat)
                    case atStart => exact ⟨0, rfl, Int.le_refl _, by omega, hid (Cb.none (by omega)), hB⟩
                    case round =>
                      clear hB m0 m1 m2 m3 m4
                      obtain ⟨x, rfl, hx0, hx1, hclx, hB⟩ := hrel
                      obtain ⟨_, m0, m1, m2, m3, m4⟩ := HM.out.keep hB
                      obtain ⟨c0, c1, c2⟩ := (HA.out.keep hB).cells
                      obtain ⟨d0, d1, d2⟩ := (HC.out.keep hB).cells
                      by_cases hx : x < W
                      · have km1 := fun V => KM1.out x V hx0 (by omega)
                        have km2 := fun V => KM2.out y V hy0 (by omega)
                        have km3 := fun V => KM3.out z V hz0 (by omega)
                        by_cases ix : x0 ≤ x ∧ x < x1
                        · rw [decide_eq_true ix] at km1
                          by_cases iy : y0 ≤ y ∧ y < y1
                          · rw [decide_eq_true iy] at km2
                            by_cases iz : z0 ≤ z ∧ z < z1
                            · rw [decide_eq_true iz] at km3
                              have hR := hid (HR.out.keep hB)
                              have IX := hid ix; have IY := hid iy; have IZ := hid iz
                              clear ix iy iz
                              go_wp2_with fail
                              refine (km1 _).mono ?_; rintro e w' ⟨rfl, rfl⟩
                              go_wp2_with fail
                              refine (km2 _).mono ?_; rintro e w' ⟨rfl, rfl⟩
                              go_wp2_with fail
                              refine (km3 _).mono ?_; rintro e w' ⟨rfl, rfl⟩
                              go_wp2_with fail
                              refine (refSolid W D H mp mn mc mf sp sn sc x y z _ hR.out).mono ?_; rintro e W4 ⟨rfl, B4⟩
                              have hB4 := btrans hB B4
                              clear hB B4 hR m0 m1 m2 m3 m4 c0 c1 c2 d0 d1 d2 km1 km2 km3
                              cases hsol : (mpOf W D H mn mf).solid x y z with
                              | true =>
                                have hf : s = false := by
                                  cases s with
                                  | false => rfl
                                  | true => exact absurd (HS.out.1 rfl x y z hx0 hx hy0 hy hz0 hz IX.out IY.out IZ.out) (Mp.solid_t.1 hsol)
                                clear hsol
                                subst hf
                                have HB4 := hid hB4
                                clear hB4
                                go_wp2
                                go_ret
                                exact ⟨rfl, btrans HB.out HB4.out⟩
                              | false =>
                                have hk := hid (hclx.out.x (fun _ _ _ => Mp.solid_f.1 hsol))
                                clear hsol
                                go_wp2
                                exact ⟨⟨x + 1, by go_num, by omega, by omega, hk, hB4⟩, by simp [intOf]; omega⟩
                            · rw [decide_eq_false iz] at km3
                              have hk := hid (hclx.out.x (fun _ _ g => absurd g iz))
                              clear ix iy iz
                              go_wp2_with fail
                              refine (km1 _).mono ?_; rintro e w' ⟨rfl, rfl⟩
                              go_wp2_with fail
                              refine (km2 _).mono ?_; rintro e w' ⟨rfl, rfl⟩
                              go_wp2_with fail
                              refine (km3 _).mono ?_; rintro e w' ⟨rfl, rfl⟩
                              go_wp2
                              exact ⟨⟨x + 1, by go_num, by omega, by omega, hk, hB⟩, by simp [intOf]; omega⟩
                          · rw [decide_eq_false iy] at km2
                            have hk := hid (hclx.out.x (fun _ g _ => absurd g iy))
                            clear ix iy
                            go_wp2_with fail
                            refine (km1 _).mono ?_; rintro e w' ⟨rfl, rfl⟩
                            go_wp2_with fail
                            refine (km2 _).mono ?_; rintro e w' ⟨rfl, rfl⟩
                            go_wp2
                            exact ⟨⟨x + 1, by go_num, by omega, by omega, hk, hB⟩, by simp [intOf]; omega⟩
                        · rw [decide_eq_false ix] at km1
                          have hk := hid (hclx.out.x (fun g _ _ => absurd g ix))
                          clear ix
                          go_wp2_with fail
                          refine (km1 _).mono ?_; rintro e w' ⟨rfl, rfl⟩
                          go_wp2
                          exact ⟨⟨x + 1, by go_num, by omega, by omega, hk, hB⟩, by simp [intOf]; omega⟩
                      · obtain rfl : x = W := by omega
                        have hk := hid (hcly.out.y hclx.out)
                        go_wp2
                        exact ⟨⟨y + 1, by go_num, by omega, by omega, hk, hB⟩, by simp [intOf]; omega⟩
                  · obtain rfl : y = D := by omega
                    have hk := hid (hcl.out.z hcly.out)
                    go_wp2
                    exact ⟨⟨z + 1, by go_num, by omega, by omega, hk, hB⟩, by simp [intOf]; omega⟩
              · obtain rfl : z = H := by omega
                have hf : s = true := HS.out.2 hcl.out
                subst hf
                go_wp2
                go_ret
                exact ⟨rfl, btrans HB.out hB⟩
  · rw [decide_eq_false hsd] at hsz
    have hF : s = false := by
      cases s with
      | false => rfl
      | true =>
        have := hs.1 rfl (a1 / 65536) (a2 / 65536) (a3 / 65536) (Int.le_refl _) (by omega) (Int.le_refl _) (by omega) (Int.le_refl _) (by omega)
        exact absurd this.1 hsd
    subst hF
    clear hs hp
    go_enter Try.func34, Try.ntmps34
    go_wp2_with fail
    refine (hsz _).mono ?_; rintro e W1 ⟨rfl, q⟩
    obtain ⟨_, m0, m1, m2, m3, m4⟩ := HM0.out.keep q
    obtain ⟨c0, c1, c2⟩ := (HA0.out.keep q).cells
    obtain ⟨d0, d1, d2⟩ := (HC0.out.keep q).cells
    go_wp2
    go_ret
    exact ⟨rfl, btrans HB0.out q⟩
theorem refClear (W D H : Int) (mp : Option Addr) (mn mc : Nat) (mf : Nat → Bool) (sp : Option Addr) (sn sc : Nat) (a1 a2 a3 : Int) (b1 b2 b3 : Int) (ha1 : I64 a1) (ha2 : I64 a2) (ha3 : I64 a3) (hb1 : I64 b1) (hb2 : I64 b2) (hb3 : I64 b3) (w : World) (hm : Arg w mp mn mc fun i => .bool (mf i)) (s : Bool) (hs : s = true ↔ (mpOf W D H mn mf).Clear ⟨a1, a2, a3⟩ ⟨b1, b2, b3⟩) :
    Calls Try.prog 34 #[.agg #[.int .i64 W, .int .i64 D, .int .i64 H, .slice mp mn mc, .slice sp sn sc], .agg #[.int .i64 a1, .int .i64 a2, .int .i64 a3], .agg #[.int .i64 b1, .int .i64 b2, .int .i64 b3]] w fun e w' => e = .returned (.bool s) ∧ Below w.heap.size w w' := by
  by_cases h1 : a1 < b1
  · by_cases h2 : a2 < b2
    · by_cases h3 : a3 < b3
      · exact refClearIn W D H mp mn mc mf sp sn sc a1 a2 a3 b1 b2 b3 ha1 ha2 ha3 hb1 hb2 hb3 h1 h2 h3 w hm s ⟨fun e => hs.1 e h1 h2 h3, fun e => hs.2 fun _ _ _ => e⟩
      · obtain rfl : s = true := hs.2 fun _ _ k => absurd k h3
        clear hs
        go_enter Try.func34, Try.ntmps34
        go_wp2
        go_ret
        exact ⟨rfl, (((Below.refl _ _).alloc (Nat.le_refl _) _).alloc (by simp) _).alloc (by simp; omega) _⟩
    · obtain rfl : s = true := hs.2 fun _ k _ => absurd k h2
      clear hs
      go_enter Try.func34, Try.ntmps34
      go_wp2
      go_ret
      exact ⟨rfl, (((Below.refl _ _).alloc (Nat.le_refl _) _).alloc (by simp) _).alloc (by simp; omega) _⟩
  · obtain rfl : s = true := hs.2 fun k _ _ => absurd k h1
    clear hs
    go_enter Try.func34, Try.ntmps34
    go_wp2
    go_ret
    exact ⟨rfl, (((Below.refl _ _).alloc (Nat.le_refl _) _).alloc (by simp) _).alloc (by simp; omega) _⟩
end Go.Proofs.Ytjjdclckkhddbaa
