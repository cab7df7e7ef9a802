/- Layer 10 (trace): the walk of the law TraceHall. -/
import Derived.Test.YtpghdfleffgilaaTwE
namespace Go.Proofs.Ytpghdfleffgilaa
open Go.RowKit
set_option linter.unusedVariables false
set_option linter.unusedSimpArgs false
attribute [local go_sem ↓] Go.wp_at_zero Go.wp_at_succ

set_option maxRecDepth 100000 in
set_option maxHeartbeats 4000000 in
theorem traceHall_walk (i1 i2 i3 : Int) (a1 a2 a3 : Int) (b1 b2 b3 : Int) (w : World) (hi1 : I64 i1) (hi2 : I64 i2) (hi3 : I64 i3) (ha1 : I64 a1) (ha2 : I64 a2) (ha3 : I64 a3) (hb1 : I64 b1) (hb2 : I64 b2) (hb3 : I64 b3) :
    Calls Try.prog 8 #[.int .i64 i1, .int .i64 i2, .int .i64 i3, .agg #[.int .i64 a1, .int .i64 a2, .int .i64 a3], .agg #[.int .i64 b1, .int .i64 b2, .int .i64 b3]] w fun e w' => e = .returned (.bool true) ∧ Below w.heap.size w w' := by
  have hsh := trShown
  obtain ⟨u1, hu1, hub1⟩ := mask (m := 7) (x := i1) (k := 3) rfl (by omega)
  obtain ⟨u2, hu2, hub2⟩ := mask (m := 7) (x := i2) (k := 3) rfl (by omega)
  obtain ⟨u3, hu3, hub3⟩ := mask (m := 7) (x := i3) (k := 3) rfl (by omega)
  obtain ⟨W, hW⟩ : ∃ s : Int, 2 + (u1 : Int) = s := ⟨_, rfl⟩
  have bW : 2 ≤ W ∧ W ≤ 9 := by omega
  obtain ⟨D, hD⟩ : ∃ s : Int, 2 + (u2 : Int) = s := ⟨_, rfl⟩
  have bD : 2 ≤ D ∧ D ≤ 9 := by omega
  obtain ⟨H, hH⟩ : ∃ s : Int, 2 + (u3 : Int) = s := ⟨_, rfl⟩
  have bH : 2 ≤ H ∧ H ≤ 9 := by omega
  obtain ⟨m, hm⟩ : ∃ m, (2 + u1) * (2 + u2) = m := ⟨_, rfl⟩
  have hm81 : m ≤ 9 * 9 := hm ▸ Nat.mul_le_mul (by omega) (by omega)
  obtain ⟨n, hn⟩ : ∃ n, m * (2 + u3) = n := ⟨_, rfl⟩
  have hn729 : n ≤ 81 * 9 := hn ▸ Nat.mul_le_mul hm81 (by omega)
  have em : W * D = (m : Int) := by rw [← hm, ← hW, ← hD]; push_cast; rfl
  have en : W * D * H = (n : Int) := by rw [em, ← hn, ← hH]; push_cast; rfl
  have hw1 : IntKind.i64.wrap (W * D) = W * D := wrapI (by omega) (by omega)
  have hw2 : IntKind.i64.wrap (W * D * H) = n := by rw [en]; exact wrapI (by omega) (by omega)
  have hs : (mpOf W D H n nof).Sized := ⟨by show 1 ≤ W; omega, by show W ≤ 32; omega, by show 1 ≤ D; omega, by show D ≤ 32; omega, by show 1 ≤ H; omega, by show H ≤ 32; omega, en.symm⟩
  have hmk := fun W => run_make_row' (P := Try.prog) 22 4 (.bool false) 1 Try.underlying22 info_bool rfl .i64 .i64 n (by omega) (by omega) W
  obtain ⟨R, hR⟩ := (mpOf W D H n nof).roomOf
  have HWD := hid hw1; have HWN := hid hw2; have HS := hid hs; have HMK := hid hmk; have HEN := hid en; have HEM := hid em; have HHR := hid hR
  clear hm hn hm81 en em hw1 hw2 hs hmk hR
  have B0 : Below w.heap.size w ((w.alloc (.cells #[.int .i64 a1, .int .i64 a2, .int .i64 a3] 27)).alloc (.cells #[.int .i64 b1, .int .i64 b2, .int .i64 b3] 27)) := ((Below.refl _ _).alloc (Nat.le_refl _) _).alloc (by simp) _
  have a : O3 ((w.alloc (.cells #[.int .i64 a1, .int .i64 a2, .int .i64 a3] 27)).alloc (.cells #[.int .i64 b1, .int .i64 b2, .int .i64 b3] 27)) w.heap.size 27 (.int .i64 a1) (.int .i64 a2) (.int .i64 a3) := (O3.new' _ _ _ _ _ rfl).alloc _
  have b : O3 ((w.alloc (.cells #[.int .i64 a1, .int .i64 a2, .int .i64 a3] 27)).alloc (.cells #[.int .i64 b1, .int .i64 b2, .int .i64 b3] 27)) (w.heap.size + 1) 27 (.int .i64 b1) (.int .i64 b2) (.int .i64 b3) := O3.new' _ _ _ _ _ (by simp)
  go_enter Try.func8, Try.ntmps8
  go_wp2_with fail
  refine (hsh _).mono ?_; rintro e V1 ⟨rfl, q1⟩
  replace a := a.keep q1; replace b := b.keep q1
  have HB := hid (B0.trans (q1.mono B0.size))
  clear q1 B0 hsh
  obtain ⟨ab, hab⟩ : ∃ b, w.heap.size = b := ⟨_, rfl⟩
  rw [hab] at a b
  have hwa : w.heap.size ≤ ab := by omega
  try simp only [hab]
  go_upto_region 3 with fail
  try simp only [hW, hD, hH]
  have hbl := b.lt
  have O := O5.new V1 (.int .i64 W) (.int .i64 D) (.int .i64 H) (.slice none 0 0) (.slice none 0 0)
  replace a := a.alloc (.cells #[.int .i64 W, .int .i64 D, .int .i64 H, .slice none 0 0, .slice none 0 0] 25); replace b := b.alloc (.cells #[.int .i64 W, .int .i64 D, .int .i64 H, .slice none 0 0, .slice none 0 0] 25); replace HB := hid (HB.out.alloc HB.out.size (.cells #[.int .i64 W, .int .i64 D, .int .i64 H, .slice none 0 0, .slice none 0 0] 25))
  obtain ⟨mb, hmb⟩ : ∃ b, V1.heap.size = b := ⟨_, rfl⟩
  rw [hmb] at O hbl
  try simp only [hmb]
  have hba : ab + 1 < mb := hbl
  have hwm : w.heap.size ≤ mb := by omega
  generalize V1.alloc (.cells #[.int .i64 W, .int .i64 D, .int .i64 H, .slice none 0 0, .slice none 0 0] 25) = V2 at *
  clear hmb
  have hmg : mb < V2.heap.size := O.lt
  obtain ⟨l0, l1, l2, l3, l4⟩ := O.cells
  obtain ⟨f0, f1, f2, f3, f4⟩ := O.thaw
  have hw1 := HWD.out; have hw2 := HWN.out; have hmk := HMK.out
  obtain ⟨g, hg⟩ : ∃ b, V2.heap.size = b := ⟨_, rfl⟩
  rw [hg] at hmg
  go_upto_region 4 with fail
  try simp only [hg]
  replace O := O.set3 (.slice (some ⟨g, 0, none⟩) n n)
  replace a := a.other (show ab ≠ mb by omega) (o := 3) (.slice (some ⟨g, 0, none⟩) n n)
  replace b := b.other (show ab + 1 ≠ mb by omega) (o := 3) (.slice (some ⟨g, 0, none⟩) n n)
  replace HB := hid (HB.out.setCell (p := ⟨mb, 3, none⟩) hwm (.slice (some ⟨g, 0, none⟩) n n))
  have hsz : (V2.setCell ⟨mb, 3, none⟩ (.slice (some ⟨g, 0, none⟩) n n)).heap.size = g := by rw [← hg]; simp [World.setCell]
  have SB : Bs ((V2.setCell ⟨mb, 3, none⟩ (.slice (some ⟨g, 0, none⟩) n n)).alloc (.cells (madeCells #[.bool false] n) 4)) g n n nof := Bs.made (by have := heap_alloc_new (V2.setCell ⟨mb, 3, none⟩ (.slice (some ⟨g, 0, none⟩) n n)) (.cells (madeCells #[.bool false] n) 4); rw [hsz] at this; exact this) (by unfold maxLen; omega)
  replace O := O.alloc (.cells (madeCells #[.bool false] n) 4); replace a := a.alloc (.cells (madeCells #[.bool false] n) 4); replace b := b.alloc (.cells (madeCells #[.bool false] n) 4); replace HB := hid (HB.out.alloc HB.out.size (.cells (madeCells #[.bool false] n) 4))
  clear l0 l1 l2 l3 l4 f0 f1 f2 f3 f4 hw1 hw2 hmk HWD HWN HMK HEM hg hsz
  generalize (V2.setCell ⟨mb, 3, none⟩ (.slice (some ⟨g, 0, none⟩) n n)).alloc (.cells (madeCells #[.bool false] n) 4) = U at *
  have hR := HHR.out
  clear HHR
  have hs := HS.out
  have hf : ∀ i, i < (mpOf W D H n nof).n → (mpOf W D H n nof).f i = false := fun _ _ => rfl
  have HF := hid hf
  clear hs hf
  have hin := (hR a1 a2 a3).trans (Mp.open_room HS.out HF.out ha1 ha2 ha3)
  obtain ⟨d1, hd1⟩ := boolOf (Ins a1 W 26214)
  obtain ⟨d2, hd2⟩ := boolOf (Ins a2 D 26214)
  obtain ⟨d3, hd3⟩ := boolOf (Ins a3 H 58982)
  have hfd : R a1 a2 a3 = (d1 && d2 && d3) := by
    rw [Bool.eq_iff_iff, hin, Bool.and_eq_true, Bool.and_eq_true, hd1, hd2, hd3]
    exact ⟨fun ⟨p, q, r⟩ => ⟨⟨p, q⟩, r⟩, fun ⟨⟨p, q⟩, r⟩ => ⟨p, q, r⟩⟩
  clear hin
  have hl1 := hid (fun V => lawIn a1 W 26214 ha1 bW (by omega) d1 hd1 V)
  have hl2 := hid (fun V => lawIn a2 D 26214 ha2 bD (by omega) d2 hd2 V)
  have hl3 := hid (fun V => lawIn a3 H 58982 ha3 bH (by omega) d3 hd3 V)
  have HFD := hid hfd
  have HD1 := hid hd1; have HD2 := hid hd2; have HD3 := hid hd3
  clear hfd hd1 hd2 hd3
  obtain ⟨m0, m1, m2, m3, m4⟩ := O.cells
  obtain ⟨ca0, ca1, ca2⟩ := a.cells
  go_wp2_with fail
  refine (hl1.out _).mono ?_; rintro e V3 ⟨rfl, hv⟩
  replace hv := hv.symm; subst hv
  cases d1 with
  | false =>
    go_wp2_with fail
    refine (traceFree W D H (some ⟨g, 0, none⟩) n n nof none 0 0 R hR a1 a2 a3 ha1 ha2 ha3 _ SB.arg).mono ?_; rintro e V9 ⟨rfl, bq⟩
    rw [HFD.out]
    go_wp2
    go_ret
    exact ⟨rfl, btrans HB.out bq⟩
  | true =>
    have P1 := hid (HD1.out.1 rfl)
    go_wp2_with fail
    refine (hl2.out _).mono ?_; rintro e V4 ⟨rfl, hv⟩
    replace hv := hv.symm; subst hv
    cases d2 with
    | false =>
      go_wp2_with fail
      refine (traceFree W D H (some ⟨g, 0, none⟩) n n nof none 0 0 R hR a1 a2 a3 ha1 ha2 ha3 _ SB.arg).mono ?_; rintro e V9 ⟨rfl, bq⟩
      rw [HFD.out]
      go_wp2
      go_ret
      exact ⟨rfl, btrans HB.out bq⟩
    | true =>
      have P2 := hid (HD2.out.1 rfl)
      go_wp2_with fail
      refine (hl3.out _).mono ?_; rintro e V5 ⟨rfl, hv⟩
      replace hv := hv.symm; subst hv
      cases d3 with
      | false =>
        go_wp2_with fail
        refine (traceFree W D H (some ⟨g, 0, none⟩) n n nof none 0 0 R hR a1 a2 a3 ha1 ha2 ha3 _ SB.arg).mono ?_; rintro e V9 ⟨rfl, bq⟩
        rw [HFD.out]
        go_wp2
        go_ret
        exact ⟨rfl, btrans HB.out bq⟩
      | true =>
        have P3 := hid (HD3.out.1 rfl)
        go_wp2_with fail
        refine (traceFree W D H (some ⟨g, 0, none⟩) n n nof none 0 0 R hR a1 a2 a3 ha1 ha2 ha3 _ SB.arg).mono ?_; rintro e V9 ⟨rfl, bq⟩
        rw [HFD.out]
        replace O := O.keep bq
        replace a := a.keep bq
        replace b := b.keep bq
        replace SB := SB.keep bq
        replace HB := hid (btrans HB.out bq)
        clear bq
        clear m0 m1 m2 m3 m4 ca0 ca1 ca2
        have hr := hid HFD.out
        clear HFD hl1 hl2 hl3
        go_upto_region 9 with fail
        obtain ⟨p1, p2, p3, q1, q2, q3, hsp⟩ : ∃ X1 Y1 Z1 C1 C2 C3, Slid R a1 a2 a3 (fclamp b1 32768) (fclamp b2 32768) (fclamp b3 32768) X1 Y1 Z1 C1 C2 C3 := ⟨_, _, _, _, _, _, Slid.mk' _ _ _ _ _ _ _⟩
        obtain ⟨hp1, hp2, hp3⟩ := hsp.i64 ha1 ha2 ha3
        have HSp := hid hsp
        clear hsp
        obtain ⟨m0, m1, m2, m3, m4⟩ := O.cells
        obtain ⟨ca0, ca1, ca2⟩ := a.cells
        obtain ⟨cb0, cb1, cb2⟩ := b.cells
        go_wp2_with fail
        refine (traceSlide W D H (some ⟨g, 0, none⟩) n n nof none 0 0 R hR a1 a2 a3 b1 b2 b3 ha1 ha2 ha3 hb1 hb2 hb3 _ _ _ _ _ _ HSp.out _ SB.arg).mono ?_; rintro e V10 ⟨rfl, bq⟩
        replace O := O.keep bq
        replace a := a.keep bq
        replace b := b.keep bq
        replace SB := SB.keep bq
        replace HB := hid (btrans HB.out bq)
        clear bq
        clear m0 m1 m2 m3 m4 ca0 ca1 ca2 cb0 cb1 cb2
        go_upto_region 10 with fail
        have hnew := O3.new V10 27 (.int .i64 p1) (.int .i64 p2) (.int .i64 p3)
        have p := hnew.alloc (.cells #[.bool q1, .bool q2, .bool q3] 30)
        have q := O3.new (V10.alloc (.cells #[.int .i64 p1, .int .i64 p2, .int .i64 p3] 27)) 30 (.bool q1) (.bool q2) (.bool q3)
        have hz : (V10.alloc (.cells #[.int .i64 p1, .int .i64 p2, .int .i64 p3] 27)).heap.size = V10.heap.size + 1 := by simp
        rw [hz] at q
        have bqq : Below V10.heap.size V10 ((V10.alloc (.cells #[.int .i64 p1, .int .i64 p2, .int .i64 p3] 27)).alloc (.cells #[.bool q1, .bool q2, .bool q3] 30)) := ((Below.refl _ _).alloc (Nat.le_refl _) _).alloc (by simp) _
        replace O := O.keep bqq
        replace a := a.keep bqq
        replace b := b.keep bqq
        replace SB := SB.keep bqq
        replace HB := hid (btrans HB.out bqq)
        clear bqq hnew hz
        obtain ⟨kp, hkp⟩ : ∃ b, V10.heap.size = b := ⟨_, rfl⟩
        rw [hkp] at p q
        try simp only [hkp]
        generalize (V10.alloc (.cells #[.int .i64 p1, .int .i64 p2, .int .i64 p3] 27)).alloc (.cells #[.bool q1, .bool q2, .bool q3] 30) = U1 at *
        clear hkp
        obtain ⟨k1, hk1⟩ : ∃ k, min 32768 b1 = k := ⟨_, rfl⟩
        have mi1 := fun ts t W => min2 (a := 32768) (b := b1) ts t W
        simp only [hk1] at mi1
        obtain ⟨c1, hcc1⟩ : ∃ c, max (-32768) k1 = c := ⟨_, rfl⟩
        have ma1 := fun ts t W => max2 (a := -32768) (b := k1) ts t W
        simp only [hcc1] at ma1
        have n1 : -32768 ≤ c1 ∧ c1 ≤ 32768 := by omega
        have hc1 : I64 c1 := ⟨by omega, by omega⟩
        have ec1 : fclamp b1 32768 = c1 := by rw [cl_mm, hk1, hcc1]
        have EC1 := hid ec1
        clear hk1 hcc1 ec1
        obtain ⟨k2, hk2⟩ : ∃ k, min 32768 b2 = k := ⟨_, rfl⟩
        have mi2 := fun ts t W => min2 (a := 32768) (b := b2) ts t W
        simp only [hk2] at mi2
        obtain ⟨c2, hcc2⟩ : ∃ c, max (-32768) k2 = c := ⟨_, rfl⟩
        have ma2 := fun ts t W => max2 (a := -32768) (b := k2) ts t W
        simp only [hcc2] at ma2
        have n2 : -32768 ≤ c2 ∧ c2 ≤ 32768 := by omega
        have hc2 : I64 c2 := ⟨by omega, by omega⟩
        have ec2 : fclamp b2 32768 = c2 := by rw [cl_mm, hk2, hcc2]
        have EC2 := hid ec2
        clear hk2 hcc2 ec2
        obtain ⟨k3, hk3⟩ : ∃ k, min 32768 b3 = k := ⟨_, rfl⟩
        have mi3 := fun ts t W => min2 (a := 32768) (b := b3) ts t W
        simp only [hk3] at mi3
        obtain ⟨c3, hcc3⟩ : ∃ c, max (-32768) k3 = c := ⟨_, rfl⟩
        have ma3 := fun ts t W => max2 (a := -32768) (b := k3) ts t W
        simp only [hcc3] at ma3
        have n3 : -32768 ≤ c3 ∧ c3 ≤ 32768 := by omega
        have hc3 : I64 c3 := ⟨by omega, by omega⟩
        have ec3 : fclamp b3 32768 = c3 := by rw [cl_mm, hk3, hcc3]
        have EC3 := hid ec3
        clear hk3 hcc3 ec3
        have e1 := HSp.out
        rw [EC1.out, EC2.out, EC3.out] at e1
        have ho := e1.opens hR HS.out HF.out ha1 ha2 ha3 n1 n2 n3 hr.out
        obtain ⟨o1, o2, o3⟩ := ho
        obtain ⟨p10, p11⟩ := P1.out
        obtain ⟨p20, p21⟩ := P2.out
        obtain ⟨p30, p31⟩ := P3.out
        have ew1 : IntKind.i64.wrap (a1 + c1) = a1 + c1 := wrapI (by omega) (by omega)
        have hI1 : I64 (a1 + c1) := ⟨by omega, by omega⟩
        obtain ⟨f1, hf1⟩ : ∃ f : Bool, (!q1) = f := ⟨_, rfl⟩
        have hl1 := hid (fun V => lawIn (a1 + c1) W 26214 hI1 bW (by omega) f1 (by rw [← hf1]; cases hq : q1 with | false => exact ⟨fun _ => Decidable.byContradiction fun h => by have := o1.2 h; rw [hq] at this; exact absurd this (by decide), fun _ => rfl⟩ | true => exact ⟨fun h => absurd h (by decide), fun h => absurd h (o1.1 hq)⟩) V)
        have hnf1 : (!f1) = q1 := by rw [← hf1]; cases q1 <;> rfl
        have ew2 : IntKind.i64.wrap (a2 + c2) = a2 + c2 := wrapI (by omega) (by omega)
        have hI2 : I64 (a2 + c2) := ⟨by omega, by omega⟩
        obtain ⟨f2, hf2⟩ : ∃ f : Bool, (!q2) = f := ⟨_, rfl⟩
        have hl2 := hid (fun V => lawIn (a2 + c2) D 26214 hI2 bD (by omega) f2 (by rw [← hf2]; cases hq : q2 with | false => exact ⟨fun _ => Decidable.byContradiction fun h => by have := o2.2 h; rw [hq] at this; exact absurd this (by decide), fun _ => rfl⟩ | true => exact ⟨fun h => absurd h (by decide), fun h => absurd h (o2.1 hq)⟩) V)
        have hnf2 : (!f2) = q2 := by rw [← hf2]; cases q2 <;> rfl
        have ew3 : IntKind.i64.wrap (a3 + c3) = a3 + c3 := wrapI (by omega) (by omega)
        have hI3 : I64 (a3 + c3) := ⟨by omega, by omega⟩
        obtain ⟨f3, hf3⟩ : ∃ f : Bool, (!q3) = f := ⟨_, rfl⟩
        have hl3 := hid (fun V => lawIn (a3 + c3) H 58982 hI3 bH (by omega) f3 (by rw [← hf3]; cases hq : q3 with | false => exact ⟨fun _ => Decidable.byContradiction fun h => by have := o3.2 h; rw [hq] at this; exact absurd this (by decide), fun _ => rfl⟩ | true => exact ⟨fun h => absurd h (by decide), fun h => absurd h (o3.1 hq)⟩) V)
        have hnf3 : (!f3) = q3 := by rw [← hf3]; cases q3 <;> rfl
        clear e1 HSp o1 o2 o3 hf1 hf2 hf3 p10 p11 p20 p21 p30 p31 HD1 HD2 HD3
        obtain ⟨ca0, ca1, ca2⟩ := a.cells
        obtain ⟨cb0, cb1, cb2⟩ := b.cells
        go_upto_region 13 with fail
        clear ca0 ca1 ca2 cb0 cb1 cb2
        obtain ⟨cq0, cq1, cq2⟩ := q.cells
        have rq0 := stays cq0
        have rq1 := stays cq1
        have rq2 := stays cq2
        obtain ⟨m0, m1, m2, m3, m4⟩ := O.cells
        have rm0 := stays m0
        have rm1 := stays m1
        have rm2 := stays m2
        clear cq0 cq1 cq2 m0 m1 m2 m3 m4
        obtain ⟨x1, hx1⟩ : ∃ x, a1 + c1 = x := ⟨_, rfl⟩
        obtain ⟨x2, hx2⟩ : ∃ x, a2 + c2 = x := ⟨_, rfl⟩
        obtain ⟨x3, hx3⟩ : ∃ x, a3 + c3 = x := ⟨_, rfl⟩
        rw [hx1] at hl1; rw [hx2] at hl2; rw [hx3] at hl3
        try simp only [hx1, hx2, hx3]
        have k1' := hid (fun V (hV : Below U1.heap.size U1 V) => (hl1.out V).mono fun e w' (h : _ ∧ _) => (⟨h.1, h.2 ▸ Below.refl _ _⟩ : _ ∧ Below V.heap.size V w'))
        have k2' := hid (fun V (hV : Below U1.heap.size U1 V) => (hl2.out V).mono fun e w' (h : _ ∧ _) => (⟨h.1, h.2 ▸ Below.refl _ _⟩ : _ ∧ Below V.heap.size V w'))
        have k3' := hid (fun V (hV : Below U1.heap.size U1 V) => (hl3.out V).mono fun e w' (h : _ ∧ _) => (⟨h.1, h.2 ▸ Below.refl _ _⟩ : _ ∧ Below V.heap.size V w'))
        refine region_held (fun w' => Below U1.heap.size U1 w') 32 rfl (by kernel_rfl) (below_drewN U1 1) ?_
        intro hHeld
        refine takeO 0 (some 95) (v := ?v1) rfl rfl (by kernel_rfl) (by kernel_rfl) (by kernel_rfl) (Or.inl ⟨by rfl, ?y1⟩) hHeld ?r1
        case y1 => (intro w' hSw; (try dsimp only at hSw); go_simp; try with_reducible rfl)
        try simp only [Act.put, List.setIfInBounds_toArray, List.set_cons_zero, List.set_cons_succ]
        refine takeO 1 (some 96) (v := ?v2) rfl rfl (by kernel_rfl) (by kernel_rfl) (by kernel_rfl) (Or.inl ⟨by rfl, ?y2⟩) hHeld ?r2
        case y2 => (intro w' hSw; (try dsimp only at hSw); go_simp; try with_reducible rfl)
        try simp only [Act.put, List.setIfInBounds_toArray, List.set_cons_zero, List.set_cons_succ]
        refine takeO 2 (some 97) (v := ?v3) rfl rfl (by kernel_rfl) (by kernel_rfl) (by kernel_rfl) (Or.inl ⟨by rfl, ?y3⟩) hHeld ?r3
        case y3 => (intro w' hSw; (try dsimp only at hSw); go_simp; try with_reducible rfl)
        try simp only [Act.put, List.setIfInBounds_toArray, List.set_cons_zero, List.set_cons_succ]
        refine takeO 3 (some 98) (v := ?v4) rfl rfl (by kernel_rfl) (by kernel_rfl) (by kernel_rfl) (Or.inl ⟨by rfl, ?y4⟩) hHeld ?r4
        case y4 => (intro w' hSw; (try dsimp only at hSw); go_simp; try with_reducible rfl)
        try simp only [Act.put, List.setIfInBounds_toArray, List.set_cons_zero, List.set_cons_succ]
        refine takeO 4 (some 99) (v := ?v5) rfl rfl (by kernel_rfl) (by kernel_rfl) (by kernel_rfl) (Or.inl ⟨by rfl, ?y5⟩) hHeld ?r5
        case y5 => (intro w' hSw; (try dsimp only at hSw); go_simp; try with_reducible rfl)
        try simp only [Act.put, List.setIfInBounds_toArray, List.set_cons_zero, List.set_cons_succ]
        refine takeO 5 (some 100) (v := ?v6) rfl rfl (by kernel_rfl) (by kernel_rfl) (by kernel_rfl) (Or.inl ⟨by rfl, ?y6⟩) hHeld ?r6
        case y6 => (intro w' hSw; (try dsimp only at hSw); go_simp; try with_reducible rfl)
        try simp only [Act.put, List.setIfInBounds_toArray, List.set_cons_zero, List.set_cons_succ]
        refine takeO 6 (some 101) (v := ?v7) rfl rfl (by kernel_rfl) (by kernel_rfl) (by kernel_rfl) (Or.inl ⟨by rfl, ?y7⟩) hHeld ?r7
        case y7 => (intro w' hSw; (try dsimp only at hSw); go_simp; try with_reducible rfl)
        try simp only [Act.put, List.setIfInBounds_toArray, List.set_cons_zero, List.set_cons_succ]
        refine wpAnyH_ready (rs := [7]) (by kernel_rfl) (by simp) ?_
        refine AllReadyH.cons rfl (fun K hK => ?_) AllReadyH.nil
        go_simp
        refine (k1'.out _ (below_drewN U1 1)).mono ?_
        rintro e V1 ⟨rfl, q1⟩
        dsimp only
        have HB1 : Below U1.heap.size U1 V1 := Below.trans (below_drewN U1 1) q1
        refine hK.out _ _ HB1 (fun hHeld => ?_)
        clear hK K q1
        refine takeO 8 (some 103) (v := ?v8) rfl rfl (by kernel_rfl) (by kernel_rfl) (by kernel_rfl) (Or.inl ⟨by rfl, ?y8⟩) hHeld ?r8
        case y8 => (intro w' hSw; (try dsimp only at hSw); go_simp; try with_reducible rfl)
        try simp only [Act.put, List.setIfInBounds_toArray, List.set_cons_zero, List.set_cons_succ]
        refine takeO 9 (some 104) (v := ?v9) rfl rfl (by kernel_rfl) (by kernel_rfl) (by kernel_rfl) (Or.inl ⟨by rfl, ?y9⟩) hHeld ?r9
        case y9 => (intro w' hSw; (try dsimp only at hSw); go_simp; try with_reducible rfl)
        try simp only [Act.put, List.setIfInBounds_toArray, List.set_cons_zero, List.set_cons_succ]
        refine takeO 10 (some 105) (v := ?v10) rfl rfl (by kernel_rfl) (by kernel_rfl) (by kernel_rfl) (Or.inl ⟨by rfl, ?y10⟩) hHeld ?r10
        case y10 => (intro w' hSw; (try dsimp only at hSw); go_simp; try with_reducible rfl)
        try simp only [Act.put, List.setIfInBounds_toArray, List.set_cons_zero, List.set_cons_succ]
        refine takeO 11 (some 106) (v := ?v11) rfl rfl (by kernel_rfl) (by kernel_rfl) (by kernel_rfl) (Or.inl ⟨by rfl, ?y11⟩) hHeld ?r11
        case y11 => (intro w' hSw; (try dsimp only at hSw); go_simp; try with_reducible rfl)
        try simp only [Act.put, List.setIfInBounds_toArray, List.set_cons_zero, List.set_cons_succ]
        refine takeO 12 (some 107) (v := ?v12) rfl rfl (by kernel_rfl) (by kernel_rfl) (by kernel_rfl) (Or.inl ⟨by rfl, ?y12⟩) hHeld ?r12
        case y12 => (intro w' hSw; (try dsimp only at hSw); go_simp; try with_reducible rfl)
        try simp only [Act.put, List.setIfInBounds_toArray, List.set_cons_zero, List.set_cons_succ]
        refine takeO 13 (some 108) (v := ?v13) rfl rfl (by kernel_rfl) (by kernel_rfl) (by kernel_rfl) (Or.inl ⟨by rfl, ?y13⟩) hHeld ?r13
        case y13 => (intro w' hSw; (try dsimp only at hSw); go_simp; try with_reducible rfl)
        try simp only [Act.put, List.setIfInBounds_toArray, List.set_cons_zero, List.set_cons_succ]
        refine takeO 14 (some 109) (v := ?v14) rfl rfl (by kernel_rfl) (by kernel_rfl) (by kernel_rfl) (Or.inl ⟨by rfl, ?y14⟩) hHeld ?r14
        case y14 => (intro w' hSw; (try dsimp only at hSw); go_simp; try with_reducible rfl)
        try simp only [Act.put, List.setIfInBounds_toArray, List.set_cons_zero, List.set_cons_succ]
        refine takeO 15 (some 110) (v := ?v15) rfl rfl (by kernel_rfl) (by kernel_rfl) (by kernel_rfl) (Or.inl ⟨by rfl, ?y15⟩) hHeld ?r15
        case y15 => (intro w' hSw; (try dsimp only at hSw); go_simp; try with_reducible rfl)
        try simp only [Act.put, List.setIfInBounds_toArray, List.set_cons_zero, List.set_cons_succ]
        refine takeO 16 (some 111) (v := ?v16) rfl rfl (by kernel_rfl) (by kernel_rfl) (by kernel_rfl) (Or.inl ⟨by rfl, ?y16⟩) hHeld ?r16
        case y16 => (intro w' hSw; (try dsimp only at hSw); go_simp; try with_reducible rfl)
        try simp only [Act.put, List.setIfInBounds_toArray, List.set_cons_zero, List.set_cons_succ]
        refine wpAnyH_ready (rs := [17]) (by kernel_rfl) (by simp) ?_
        refine AllReadyH.cons rfl (fun K hK => ?_) AllReadyH.nil
        go_simp
        refine (k2'.out _ HB1).mono ?_
        rintro e V2 ⟨rfl, q2⟩
        dsimp only
        have HB2 := btrans HB1 q2
        refine hK.out _ _ HB2 (fun hHeld => ?_)
        clear hK K q2 HB1
        refine takeO 18 (some 113) (v := ?v17) rfl rfl (by kernel_rfl) (by kernel_rfl) (by kernel_rfl) (Or.inl ⟨by rfl, ?y17⟩) hHeld ?r17
        case y17 => (intro w' hSw; (try dsimp only at hSw); go_simp; try with_reducible rfl)
        try simp only [Act.put, List.setIfInBounds_toArray, List.set_cons_zero, List.set_cons_succ]
        refine takeO 19 (some 114) (v := ?v18) rfl rfl (by kernel_rfl) (by kernel_rfl) (by kernel_rfl) (Or.inl ⟨by rfl, ?y18⟩) hHeld ?r18
        case y18 => (intro w' hSw; (try dsimp only at hSw); go_simp; try with_reducible rfl)
        try simp only [Act.put, List.setIfInBounds_toArray, List.set_cons_zero, List.set_cons_succ]
        refine takeO 20 (some 115) (v := ?v19) rfl rfl (by kernel_rfl) (by kernel_rfl) (by kernel_rfl) (Or.inl ⟨by rfl, ?y19⟩) hHeld ?r19
        case y19 => (intro w' hSw; (try dsimp only at hSw); go_simp; try with_reducible rfl)
        try simp only [Act.put, List.setIfInBounds_toArray, List.set_cons_zero, List.set_cons_succ]
        refine takeO 21 (some 116) (v := ?v20) rfl rfl (by kernel_rfl) (by kernel_rfl) (by kernel_rfl) (Or.inl ⟨by rfl, ?y20⟩) hHeld ?r20
        case y20 => (intro w' hSw; (try dsimp only at hSw); go_simp; try with_reducible rfl)
        try simp only [Act.put, List.setIfInBounds_toArray, List.set_cons_zero, List.set_cons_succ]
        refine takeO 22 (some 117) (v := ?v21) rfl rfl (by kernel_rfl) (by kernel_rfl) (by kernel_rfl) (Or.inl ⟨by rfl, ?y21⟩) hHeld ?r21
        case y21 => (intro w' hSw; (try dsimp only at hSw); go_simp; try with_reducible rfl)
        try simp only [Act.put, List.setIfInBounds_toArray, List.set_cons_zero, List.set_cons_succ]
        refine takeO 23 (some 118) (v := ?v22) rfl rfl (by kernel_rfl) (by kernel_rfl) (by kernel_rfl) (Or.inl ⟨by rfl, ?y22⟩) hHeld ?r22
        case y22 => (intro w' hSw; (try dsimp only at hSw); go_simp; try with_reducible rfl)
        try simp only [Act.put, List.setIfInBounds_toArray, List.set_cons_zero, List.set_cons_succ]
        refine takeO 24 (some 119) (v := ?v23) rfl rfl (by kernel_rfl) (by kernel_rfl) (by kernel_rfl) (Or.inl ⟨by rfl, ?y23⟩) hHeld ?r23
        case y23 => (intro w' hSw; (try dsimp only at hSw); go_simp; try with_reducible rfl)
        try simp only [Act.put, List.setIfInBounds_toArray, List.set_cons_zero, List.set_cons_succ]
        refine takeO 25 (some 120) (v := ?v24) rfl rfl (by kernel_rfl) (by kernel_rfl) (by kernel_rfl) (Or.inl ⟨by rfl, ?y24⟩) hHeld ?r24
        case y24 => (intro w' hSw; (try dsimp only at hSw); go_simp; try with_reducible rfl)
        try simp only [Act.put, List.setIfInBounds_toArray, List.set_cons_zero, List.set_cons_succ]
        refine takeO 26 (some 121) (v := ?v25) rfl rfl (by kernel_rfl) (by kernel_rfl) (by kernel_rfl) (Or.inl ⟨by rfl, ?y25⟩) hHeld ?r25
        case y25 => (intro w' hSw; (try dsimp only at hSw); go_simp; try with_reducible rfl)
        try simp only [Act.put, List.setIfInBounds_toArray, List.set_cons_zero, List.set_cons_succ]
        refine wpAnyH_ready (rs := [27]) (by kernel_rfl) (by simp) ?_
        refine AllReadyH.cons rfl (fun K hK => ?_) AllReadyH.nil
        go_simp
        refine (k3'.out _ HB2).mono ?_
        rintro e V3 ⟨rfl, q3⟩
        dsimp only
        have HB3 := btrans HB2 q3
        refine hK.out _ _ HB3 (fun hHeld => ?_)
        clear hK K q3 HB2
        refine takeO 28 (some 123) (v := ?v26) rfl rfl (by kernel_rfl) (by kernel_rfl) (by kernel_rfl) (Or.inl ⟨by rfl, ?y26⟩) hHeld ?r26
        case y26 => (intro w' hSw; (try dsimp only at hSw); go_simp; try with_reducible rfl)
        try simp only [Act.put, List.setIfInBounds_toArray, List.set_cons_zero, List.set_cons_succ]
        refine takeO 29 (some 124) (v := ?v27) rfl rfl (by kernel_rfl) (by kernel_rfl) (by kernel_rfl) (Or.inl ⟨by rfl, ?y27⟩) hHeld ?r27
        case y27 => (intro w' hSw; (try dsimp only at hSw); go_simp; try with_reducible rfl)
        try simp only [Act.put, List.setIfInBounds_toArray, List.set_cons_zero, List.set_cons_succ]
        refine takeO 30 (some 125) (v := ?v28) rfl rfl (by kernel_rfl) (by kernel_rfl) (by kernel_rfl) (Or.inl ⟨by rfl, ?y28⟩) hHeld ?r28
        case y28 => (intro w' hSw; (try dsimp only at hSw); go_simp; try with_reducible rfl)
        try simp only [Act.put, List.setIfInBounds_toArray, List.set_cons_zero, List.set_cons_succ]
        refine takeO 31 (some 10) (v := ?v29) rfl rfl (by kernel_rfl) (by kernel_rfl) (by kernel_rfl) (Or.inl ⟨by rfl, ?y29⟩) hHeld ?r29
        case y29 => (intro w' hSw; (try dsimp only at hSw); go_simp; try with_reducible rfl)
        try simp only [Act.put, List.setIfInBounds_toArray, List.set_cons_zero, List.set_cons_succ]
        refine wpAnyH_done (by kernel_rfl) (Only.on ?_) _
        clear hHeld
        go_wp2
        go_ret
        exact ⟨rfl, btrans HB.out HB3⟩
end Go.Proofs.Ytpghdfleffgilaa
