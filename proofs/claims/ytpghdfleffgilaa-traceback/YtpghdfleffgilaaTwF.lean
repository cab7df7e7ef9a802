/- Layer 10 (trace): the walk of the law TraceBack. -/
import Derived.Test.YtpghdfleffgilaaTwE
namespace Go.Proofs.Ytpghdfleffgilaa
open Go.RowKit
set_option linter.unusedVariables false
set_option linter.unusedSimpArgs false
attribute [local go_sem ↓] Go.wp_at_zero Go.wp_at_succ

set_option maxRecDepth 100000 in
set_option maxHeartbeats 4000000 in
theorem traceBack_walk (i1 i2 i3 : Int) (a1 a2 a3 : Int) (b1 b2 b3 : Int) (w : World) (hi1 : I64 i1) (hi2 : I64 i2) (hi3 : I64 i3) (ha1 : I64 a1) (ha2 : I64 a2) (ha3 : I64 a3) (hb1 : I64 b1) (hb2 : I64 b2) (hb3 : I64 b3) :
    Calls Try.prog 9 #[.int .i64 i1, .int .i64 i2, .int .i64 i3, .agg #[.int .i64 a1, .int .i64 a2, .int .i64 a3], .agg #[.int .i64 b1, .int .i64 b2, .int .i64 b3]] w fun e w' => e = .returned (.bool true) ∧ Below w.heap.size w w' := by
  have hsh := trShown
  obtain ⟨u1, hu1, hub1⟩ := mask (m := 7) (x := i1) (k := 3) rfl (by omega)
  obtain ⟨u2, hu2, hub2⟩ := mask (m := 7) (x := i2) (k := 3) rfl (by omega)
  obtain ⟨u3, hu3, hub3⟩ := mask (m := 7) (x := i3) (k := 3) rfl (by omega)
  obtain ⟨W, hW⟩ : ∃ s : Int, 2 + (u1 : Int) = s := ⟨_, rfl⟩
  have bW : 2 ≤ W ∧ W ≤ 9 := by omega
  obtain ⟨D, hD⟩ : ∃ s : Int, 2 + (u2 : Int) = s := ⟨_, rfl⟩
  have bD : 2 ≤ D ∧ D ≤ 9 := by omega
  obtain ⟨H, hH⟩ : ∃ s : Int, 2 + (u3 : Int) = s := ⟨_, rfl⟩
  have bH : 2 ≤ H ∧ H ≤ 9 := by omega
  obtain ⟨m, hm⟩ : ∃ m, (2 + u1) * (2 + u2) = m := ⟨_, rfl⟩
  have hm81 : m ≤ 9 * 9 := hm ▸ Nat.mul_le_mul (by omega) (by omega)
  obtain ⟨n, hn⟩ : ∃ n, m * (2 + u3) = n := ⟨_, rfl⟩
  have hn729 : n ≤ 81 * 9 := hn ▸ Nat.mul_le_mul hm81 (by omega)
  have em : W * D = (m : Int) := by rw [← hm, ← hW, ← hD]; push_cast; rfl
  have en : W * D * H = (n : Int) := by rw [em, ← hn, ← hH]; push_cast; rfl
  have hw1 : IntKind.i64.wrap (W * D) = W * D := wrapI (by omega) (by omega)
  have hw2 : IntKind.i64.wrap (W * D * H) = n := by rw [en]; exact wrapI (by omega) (by omega)
  have hs : (mpOf W D H n nof).Sized := ⟨by show 1 ≤ W; omega, by show W ≤ 32; omega, by show 1 ≤ D; omega, by show D ≤ 32; omega, by show 1 ≤ H; omega, by show H ≤ 32; omega, en.symm⟩
  have hmk := fun W => run_make_row' (P := Try.prog) 22 4 (.bool false) 1 Try.underlying22 info_bool rfl .i64 .i64 n (by omega) (by omega) W
  obtain ⟨R, hR⟩ := (mpOf W D H n nof).roomOf
  have HWD := hid hw1; have HWN := hid hw2; have HS := hid hs; have HMK := hid hmk; have HEN := hid en; have HEM := hid em; have HHR := hid hR
  clear hm hn hm81 en em hw1 hw2 hs hmk hR
  have B0 : Below w.heap.size w ((w.alloc (.cells #[.int .i64 a1, .int .i64 a2, .int .i64 a3] 27)).alloc (.cells #[.int .i64 b1, .int .i64 b2, .int .i64 b3] 27)) := ((Below.refl _ _).alloc (Nat.le_refl _) _).alloc (by simp) _
  have a : O3 ((w.alloc (.cells #[.int .i64 a1, .int .i64 a2, .int .i64 a3] 27)).alloc (.cells #[.int .i64 b1, .int .i64 b2, .int .i64 b3] 27)) w.heap.size 27 (.int .i64 a1) (.int .i64 a2) (.int .i64 a3) := (O3.new' _ _ _ _ _ rfl).alloc _
  have b : O3 ((w.alloc (.cells #[.int .i64 a1, .int .i64 a2, .int .i64 a3] 27)).alloc (.cells #[.int .i64 b1, .int .i64 b2, .int .i64 b3] 27)) (w.heap.size + 1) 27 (.int .i64 b1) (.int .i64 b2) (.int .i64 b3) := O3.new' _ _ _ _ _ (by simp)
  go_enter Try.func9, Try.ntmps9
  go_wp2_with fail
  refine (hsh _).mono ?_; rintro e V1 ⟨rfl, q1⟩
  replace a := a.keep q1; replace b := b.keep q1
  have HB := hid (B0.trans (q1.mono B0.size))
  clear q1 B0 hsh
  obtain ⟨ab, hab⟩ : ∃ b, w.heap.size = b := ⟨_, rfl⟩
  rw [hab] at a b
  have hwa : w.heap.size ≤ ab := by omega
  try simp only [hab]
  go_upto_region 3 with fail
  try simp only [hW, hD, hH]
  have hbl := b.lt
  have O := O5.new V1 (.int .i64 W) (.int .i64 D) (.int .i64 H) (.slice none 0 0) (.slice none 0 0)
  replace a := a.alloc (.cells #[.int .i64 W, .int .i64 D, .int .i64 H, .slice none 0 0, .slice none 0 0] 25); replace b := b.alloc (.cells #[.int .i64 W, .int .i64 D, .int .i64 H, .slice none 0 0, .slice none 0 0] 25); replace HB := hid (HB.out.alloc HB.out.size (.cells #[.int .i64 W, .int .i64 D, .int .i64 H, .slice none 0 0, .slice none 0 0] 25))
  obtain ⟨mb, hmb⟩ : ∃ b, V1.heap.size = b := ⟨_, rfl⟩
  rw [hmb] at O hbl
  try simp only [hmb]
  have hba : ab + 1 < mb := hbl
  have hwm : w.heap.size ≤ mb := by omega
  generalize V1.alloc (.cells #[.int .i64 W, .int .i64 D, .int .i64 H, .slice none 0 0, .slice none 0 0] 25) = V2 at *
  clear hmb
  have hmg : mb < V2.heap.size := O.lt
  obtain ⟨l0, l1, l2, l3, l4⟩ := O.cells
  obtain ⟨f0, f1, f2, f3, f4⟩ := O.thaw
  have hw1 := HWD.out; have hw2 := HWN.out; have hmk := HMK.out
  obtain ⟨g, hg⟩ : ∃ b, V2.heap.size = b := ⟨_, rfl⟩
  rw [hg] at hmg
  go_upto_region 4 with fail
  try simp only [hg]
  replace O := O.set3 (.slice (some ⟨g, 0, none⟩) n n)
  replace a := a.other (show ab ≠ mb by omega) (o := 3) (.slice (some ⟨g, 0, none⟩) n n)
  replace b := b.other (show ab + 1 ≠ mb by omega) (o := 3) (.slice (some ⟨g, 0, none⟩) n n)
  replace HB := hid (HB.out.setCell (p := ⟨mb, 3, none⟩) hwm (.slice (some ⟨g, 0, none⟩) n n))
  have hsz : (V2.setCell ⟨mb, 3, none⟩ (.slice (some ⟨g, 0, none⟩) n n)).heap.size = g := by rw [← hg]; simp [World.setCell]
  have SB : Bs ((V2.setCell ⟨mb, 3, none⟩ (.slice (some ⟨g, 0, none⟩) n n)).alloc (.cells (madeCells #[.bool false] n) 4)) g n n nof := Bs.made (by have := heap_alloc_new (V2.setCell ⟨mb, 3, none⟩ (.slice (some ⟨g, 0, none⟩) n n)) (.cells (madeCells #[.bool false] n) 4); rw [hsz] at this; exact this) (by unfold maxLen; omega)
  replace O := O.alloc (.cells (madeCells #[.bool false] n) 4); replace a := a.alloc (.cells (madeCells #[.bool false] n) 4); replace b := b.alloc (.cells (madeCells #[.bool false] n) 4); replace HB := hid (HB.out.alloc HB.out.size (.cells (madeCells #[.bool false] n) 4))
  clear l0 l1 l2 l3 l4 f0 f1 f2 f3 f4 hw1 hw2 hmk HWD HWN HMK HEM hg hsz
  generalize (V2.setCell ⟨mb, 3, none⟩ (.slice (some ⟨g, 0, none⟩) n n)).alloc (.cells (madeCells #[.bool false] n) 4) = U at *
  have hR := HHR.out
  clear HHR
  have hs := HS.out
  have hf : ∀ i, i < (mpOf W D H n nof).n → (mpOf W D H n nof).f i = false := fun _ _ => rfl
  have HF := hid hf
  clear hs hf
  obtain ⟨m0, m1, m2, m3, m4⟩ := O.cells
  obtain ⟨ca0, ca1, ca2⟩ := a.cells
  go_wp2_with fail
  refine (traceFree W D H (some ⟨g, 0, none⟩) n n nof none 0 0 R hR a1 a2 a3 ha1 ha2 ha3 _ SB.arg).mono ?_; rintro e V3 ⟨rfl, bq⟩
  replace O := O.keep bq
  replace a := a.keep bq
  replace b := b.keep bq
  replace SB := SB.keep bq
  replace HB := hid (btrans HB.out bq)
  clear bq
  clear m0 m1 m2 m3 m4 ca0 ca1 ca2
  obtain ⟨f, hr⟩ : ∃ f, R a1 a2 a3 = f := ⟨_, rfl⟩
  rw [hr]
  cases f with
  | false =>
    go_wp2
    go_ret
    exact ⟨rfl, HB.out⟩
  | true =>
    replace hr := hid hr
    obtain ⟨k1, hk1⟩ : ∃ k, min 32768 b1 = k := ⟨_, rfl⟩
    have mi1 := fun ts t W => min2 (a := 32768) (b := b1) ts t W
    simp only [hk1] at mi1
    obtain ⟨c1, hcc1⟩ : ∃ c, max (-32768) k1 = c := ⟨_, rfl⟩
    have ma1 := fun ts t W => max2 (a := -32768) (b := k1) ts t W
    simp only [hcc1] at ma1
    have n1 : -32768 ≤ c1 ∧ c1 ≤ 32768 := by omega
    have hc1 : I64 c1 := ⟨by omega, by omega⟩
    have ec1 : fclamp b1 32768 = c1 := by rw [cl_mm, hk1, hcc1]
    have EC1 := hid ec1
    clear hk1 hcc1 ec1
    obtain ⟨k2, hk2⟩ : ∃ k, min 32768 b2 = k := ⟨_, rfl⟩
    have mi2 := fun ts t W => min2 (a := 32768) (b := b2) ts t W
    simp only [hk2] at mi2
    obtain ⟨c2, hcc2⟩ : ∃ c, max (-32768) k2 = c := ⟨_, rfl⟩
    have ma2 := fun ts t W => max2 (a := -32768) (b := k2) ts t W
    simp only [hcc2] at ma2
    have n2 : -32768 ≤ c2 ∧ c2 ≤ 32768 := by omega
    have hc2 : I64 c2 := ⟨by omega, by omega⟩
    have ec2 : fclamp b2 32768 = c2 := by rw [cl_mm, hk2, hcc2]
    have EC2 := hid ec2
    clear hk2 hcc2 ec2
    obtain ⟨k3, hk3⟩ : ∃ k, min 32768 b3 = k := ⟨_, rfl⟩
    have mi3 := fun ts t W => min2 (a := 32768) (b := b3) ts t W
    simp only [hk3] at mi3
    obtain ⟨c3, hcc3⟩ : ∃ c, max (-32768) k3 = c := ⟨_, rfl⟩
    have ma3 := fun ts t W => max2 (a := -32768) (b := k3) ts t W
    simp only [hcc3] at ma3
    have n3 : -32768 ≤ c3 ∧ c3 ≤ 32768 := by omega
    have hc3 : I64 c3 := ⟨by omega, by omega⟩
    have ec3 : fclamp b3 32768 = c3 := by rw [cl_mm, hk3, hcc3]
    have EC3 := hid ec3
    clear hk3 hcc3 ec3
    obtain ⟨cb0, cb1, cb2⟩ := b.cells
    obtain ⟨f0, f1, f2⟩ := b.thaw
    go_upto_region 9 with fail
    replace b := b.set (.int .i64 c1) (.int .i64 c2) (.int .i64 c3)
    replace a := a.others (show ab ≠ ab + 1 by omega) (.int .i64 c1) (.int .i64 c2) (.int .i64 c3)
    replace O := O.others (show mb ≠ ab + 1 by omega) (.int .i64 c1) (.int .i64 c2) (.int .i64 c3)
    replace SB := ((SB.other (show g ≠ ab + 1 by omega) (o := 0) (.int .i64 c1)).other (show g ≠ ab + 1 by omega) (o := 1) (.int .i64 c2)).other (show g ≠ ab + 1 by omega) (o := 2) (.int .i64 c3)
    replace HB := hid (below_set3 HB.out (show w.heap.size ≤ ab + 1 by omega) (.int .i64 c1) (.int .i64 c2) (.int .i64 c3))
    clear cb0 cb1 cb2 f0 f1 f2 mi1 ma1 mi2 ma2 mi3 ma3
    generalize ((V3.setCell ⟨ab + 1, 0, none⟩ (.int .i64 c1)).setCell ⟨ab + 1, 1, none⟩ (.int .i64 c2)).setCell ⟨ab + 1, 2, none⟩ (.int .i64 c3) = U1 at *
    obtain ⟨p1, p2, p3, q1, q2, q3, hsp⟩ : ∃ X1 Y1 Z1 C1 C2 C3, Slid R a1 a2 a3 (fclamp c1 32768) (fclamp c2 32768) (fclamp c3 32768) X1 Y1 Z1 C1 C2 C3 := ⟨_, _, _, _, _, _, Slid.mk' _ _ _ _ _ _ _⟩
    obtain ⟨hp1, hp2, hp3⟩ := hsp.i64 ha1 ha2 ha3
    have HSp := hid hsp
    clear hsp
    obtain ⟨m0, m1, m2, m3, m4⟩ := O.cells
    obtain ⟨ca0, ca1, ca2⟩ := a.cells
    obtain ⟨cb0, cb1, cb2⟩ := b.cells
    go_wp2_with fail
    refine (traceSlide W D H (some ⟨g, 0, none⟩) n n nof none 0 0 R hR a1 a2 a3 c1 c2 c3 ha1 ha2 ha3 hc1 hc2 hc3 _ _ _ _ _ _ HSp.out _ SB.arg).mono ?_; rintro e V4 ⟨rfl, bq⟩
    replace O := O.keep bq
    replace a := a.keep bq
    replace b := b.keep bq
    replace SB := SB.keep bq
    replace HB := hid (btrans HB.out bq)
    clear bq
    clear m0 m1 m2 m3 m4 ca0 ca1 ca2 cb0 cb1 cb2
    go_upto_region 10 with fail
    have hnew := O3.new V4 27 (.int .i64 p1) (.int .i64 p2) (.int .i64 p3)
    have p := hnew.alloc (.cells #[.bool q1, .bool q2, .bool q3] 30)
    have q := O3.new (V4.alloc (.cells #[.int .i64 p1, .int .i64 p2, .int .i64 p3] 27)) 30 (.bool q1) (.bool q2) (.bool q3)
    have hz : (V4.alloc (.cells #[.int .i64 p1, .int .i64 p2, .int .i64 p3] 27)).heap.size = V4.heap.size + 1 := by simp
    rw [hz] at q
    have bqq : Below V4.heap.size V4 ((V4.alloc (.cells #[.int .i64 p1, .int .i64 p2, .int .i64 p3] 27)).alloc (.cells #[.bool q1, .bool q2, .bool q3] 30)) := ((Below.refl _ _).alloc (Nat.le_refl _) _).alloc (by simp) _
    replace O := O.keep bqq
    replace a := a.keep bqq
    replace b := b.keep bqq
    replace SB := SB.keep bqq
    replace HB := hid (btrans HB.out bqq)
    clear bqq hnew hz
    obtain ⟨kp, hkp⟩ : ∃ b, V4.heap.size = b := ⟨_, rfl⟩
    rw [hkp] at p q
    try simp only [hkp]
    generalize (V4.alloc (.cells #[.int .i64 p1, .int .i64 p2, .int .i64 p3] 27)).alloc (.cells #[.bool q1, .bool q2, .bool q3] 30) = U2 at *
    clear hkp
    have e1 := HSp.out
    rw [cl_id n1.1 n1.2, cl_id n2.1 n2.2, cl_id n3.1 n3.2] at e1
    obtain ⟨s0, s1, s2, s3⟩ := e1.stays hR ha1 ha2 ha3 n1 n2 n3 hr.out
    clear e1 HSp
    have hin := ((hR _ _ _).1 hr.out).inside ha1 ha2 ha3
    obtain ⟨hin0, ⟨i10, i11⟩, ⟨i20, i21⟩, ⟨i30, i31⟩⟩ := hin
    dsimp only [mpOf] at i11 i21 i31
    clear hin0
    by_cases hq : q1 = false ∧ q2 = false ∧ q3 = false
    · obtain ⟨rfl, rfl, rfl⟩ := hq
      obtain ⟨g1, _⟩ | ⟨_, g1, _⟩ := s1
      case inr => exact absurd g1 (by decide)
      obtain ⟨g2, _⟩ | ⟨_, g2, _⟩ := s2
      case inr => exact absurd g2 (by decide)
      obtain ⟨g3, _⟩ | ⟨_, g3, _⟩ := s3
      case inr => exact absurd g3 (by decide)
      subst g1; subst g2; subst g3
      have hs0 := hid s0
      clear s0
      obtain ⟨m0, m1, m2, m3, m4⟩ := O.cells
      obtain ⟨cq0, cq1, cq2⟩ := q.cells
      go_upto_region 12 with fail
      clear m0 m1 m2 m3 m4 cq0 cq1 cq2
      obtain ⟨r1, r2, r3, s1, s2, s3, hsr⟩ : ∃ X1 Y1 Z1 C1 C2 C3, Slid R (a1 + c1) (a2 + c2) (a3 + c3) (fclamp (-c1) 32768) (fclamp (-c2) 32768) (fclamp (-c3) 32768) X1 Y1 Z1 C1 C2 C3 := ⟨_, _, _, _, _, _, Slid.mk' _ _ _ _ _ _ _⟩
      obtain ⟨hr1, hr2, hr3⟩ := hsr.i64 hp1 hp2 hp3
      have HSr := hid hsr
      clear hsr
      obtain ⟨m0, m1, m2, m3, m4⟩ := O.cells
      obtain ⟨cp0, cp1, cp2⟩ := p.cells
      obtain ⟨cb0, cb1, cb2⟩ := b.cells
      go_wp2_with fail
      refine (traceSlide W D H (some ⟨g, 0, none⟩) n n nof none 0 0 R hR (a1 + c1) (a2 + c2) (a3 + c3) (-c1) (-c2) (-c3) hp1 hp2 hp3 ⟨by omega, by omega⟩ ⟨by omega, by omega⟩ ⟨by omega, by omega⟩ _ _ _ _ _ _ HSr.out _ SB.arg).mono ?_; rintro e V5 ⟨rfl, bq⟩
      replace O := O.keep bq
      replace a := a.keep bq
      replace b := b.keep bq
      replace SB := SB.keep bq
      replace p := p.keep bq
      replace q := q.keep bq
      replace HB := hid (btrans HB.out bq)
      clear bq
      clear m0 m1 m2 m3 m4 cp0 cp1 cp2 cb0 cb1 cb2
      go_upto_region 13 with fail
      have hnew := O3.new V5 27 (.int .i64 r1) (.int .i64 r2) (.int .i64 r3)
      have r := hnew.alloc (.cells #[.bool s1, .bool s2, .bool s3] 30)
      have s := O3.new (V5.alloc (.cells #[.int .i64 r1, .int .i64 r2, .int .i64 r3] 27)) 30 (.bool s1) (.bool s2) (.bool s3)
      have hz : (V5.alloc (.cells #[.int .i64 r1, .int .i64 r2, .int .i64 r3] 27)).heap.size = V5.heap.size + 1 := by simp
      rw [hz] at s
      have bqq : Below V5.heap.size V5 ((V5.alloc (.cells #[.int .i64 r1, .int .i64 r2, .int .i64 r3] 27)).alloc (.cells #[.bool s1, .bool s2, .bool s3] 30)) := ((Below.refl _ _).alloc (Nat.le_refl _) _).alloc (by simp) _
      replace O := O.keep bqq
      replace a := a.keep bqq
      replace b := b.keep bqq
      replace SB := SB.keep bqq
      replace p := p.keep bqq
      replace q := q.keep bqq
      replace HB := hid (btrans HB.out bqq)
      clear bqq hnew hz
      obtain ⟨kr, hkr⟩ : ∃ b, V5.heap.size = b := ⟨_, rfl⟩
      rw [hkr] at r s
      try simp only [hkr]
      generalize (V5.alloc (.cells #[.int .i64 r1, .int .i64 r2, .int .i64 r3] 27)).alloc (.cells #[.bool s1, .bool s2, .bool s3] 30) = U3 at *
      clear hkr
      have e2 := HSr.out
      rw [cl_id (a := -c1) (by omega) (by omega), cl_id (a := -c2) (by omega) (by omega), cl_id (a := -c3) (by omega) (by omega)] at e2
      obtain ⟨l1, l2, l3, l4, l5, l6⟩ := e2.back hR HS.out HF.out ha1 ha2 ha3 n1 n2 n3 hr.out hs0.out
      clear e2 HSr
      rw [l1, l2, l3] at r
      rw [l4, l5, l6] at s
      clear l1 l2 l3 l4 l5 l6
      have ew1 : IntKind.i64.wrap (a1 + c1) = a1 + c1 := wrapI (by omega) (by omega)
      have ew2 : IntKind.i64.wrap (a2 + c2) = a2 + c2 := wrapI (by omega) (by omega)
      have ew3 : IntKind.i64.wrap (a3 + c3) = a3 + c3 := wrapI (by omega) (by omega)
      clear O SB HS HF HEN hr hs0 i10 i11 i20 i21 i30 i31 n1 n2 n3 hW hD hH bW bD bH EC1 EC2 EC3 hR
      obtain ⟨cp0, cp1, cp2⟩ := p.cells
      obtain ⟨ca0, ca1, ca2⟩ := a.cells
      obtain ⟨cb0, cb1, cb2⟩ := b.cells
      obtain ⟨cr0, cr1, cr2⟩ := r.cells
      obtain ⟨cs0, cs1, cs2⟩ := s.cells
      go_wp2
      go_ret
      exact ⟨rfl, HB.out⟩
    · have hz : ∀ {q : Bool} {p a c : Int}, (p = a + c ∧ q = false) ∨ (p = a ∧ q = true ∧ c ≠ 0) → (q = true ∧ p = a) ∨ (q = false ∧ p ≠ a) ∨ (q = false ∧ p = a) := fun {q p a c} h => by
        rcases h with ⟨_, h⟩ | ⟨h, k, _⟩
        · by_cases e : p = a
          · exact .inr (.inr ⟨h, e⟩)
          · exact .inr (.inl ⟨h, e⟩)
        · exact .inl ⟨k, h⟩
      replace s1 := hz s1; replace s2 := hz s2; replace s3 := hz s3
      clear hz hr s0
      obtain ⟨m0, m1, m2, m3, m4⟩ := O.cells
      obtain ⟨cp0, cp1, cp2⟩ := p.cells
      obtain ⟨ca0, ca1, ca2⟩ := a.cells
      obtain ⟨cq0, cq1, cq2⟩ := q.cells
      rcases s1 with ⟨g1, h1⟩ | ⟨g1, h1⟩ | ⟨g1, h1⟩ <;> rcases s2 with ⟨g2, h2⟩ | ⟨g2, h2⟩ | ⟨g2, h2⟩ <;> rcases s3 with ⟨g3, h3⟩ | ⟨g3, h3⟩ | ⟨g3, h3⟩
      all_goals try simp [g1, g2, g3] at hq
      all_goals subst g1; subst g2; subst g3
      all_goals clear hq
      all_goals try subst h1
      all_goals try subst h2
      all_goals try subst h3
      all_goals clear O SB b HS HF HEN hR EC1 EC2 EC3 hW hD hH bW bD bH n1 n2 n3 i10 i11 i20 i21 i30 i31
      all_goals (go_wp2; go_ret; exact ⟨rfl, HB.out⟩)
end Go.Proofs.Ytpghdfleffgilaa
