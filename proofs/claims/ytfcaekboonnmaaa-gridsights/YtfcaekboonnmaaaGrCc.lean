/- Layer 9 (grid): the contract of the document's own answer Sight. -/
import Derived.Test.YtfcaekboonnmaaaGrBb
namespace Go.Proofs.Ytfcaekboonnmaaa
open Go.RowKit
set_option linter.unusedVariables false
set_option linter.unusedSimpArgs false
attribute [local go_sem ↓] Go.wp_at_zero Go.wp_at_succ

theorem refCellB (n : Int) (hn : I64 n) (w : World) :
    Calls Try.prog 16 #[.int .i64 n] w fun e w' => e = .returned (.int .i64 (n / 65536)) ∧ Below w.heap.size w w' :=
  (refCell n hn w).mono (by rintro e w' ⟨h1, h2⟩; subst h2; exact ⟨h1, Below.refl _ _⟩)
set_option maxRecDepth 100000 in
set_option maxHeartbeats 4000000 in
theorem refSight (W D H : Int) (mp : Option Addr) (mn mc : Nat) (mf : Nat → Bool) (sp : Option Addr) (sn sc : Nat) (a1 a2 a3 : Int) (b1 b2 b3 : Int) (ha1 : I64 a1) (ha2 : I64 a2) (ha3 : I64 a3) (hb1 : I64 b1) (hb2 : I64 b2) (hb3 : I64 b3) (w : World) (hm : Arg w mp mn mc fun i => .bool (mf i)) (s : Bool) (hs : s = true ↔ (mpOf W D H mn mf).Sees ⟨a1, a2, a3⟩ ⟨b1, b2, b3⟩) :
    Calls Try.prog 24 #[.agg #[.int .i64 W, .int .i64 D, .int .i64 H, .slice mp mn mc, .slice sp sn sc], .agg #[.int .i64 a1, .int .i64 a2, .int .i64 a3], .agg #[.int .i64 b1, .int .i64 b2, .int .i64 b3]] w fun e w' => e = .returned (.bool s) ∧ Below w.heap.size w w' := by
  have A0 : B3 (((w.alloc (.cells #[.int .i64 W, .int .i64 D, .int .i64 H, .slice mp mn mc, .slice sp sn sc] 25)).alloc (.cells #[.int .i64 a1, .int .i64 a2, .int .i64 a3] 27)).alloc (.cells #[.int .i64 b1, .int .i64 b2, .int .i64 b3] 27)) (w.heap.size + 1) 27 a1 a2 a3 := (B3.new' _ _ _ _ _ (by simp)).alloc _
  have C0 : B3 (((w.alloc (.cells #[.int .i64 W, .int .i64 D, .int .i64 H, .slice mp mn mc, .slice sp sn sc] 25)).alloc (.cells #[.int .i64 a1, .int .i64 a2, .int .i64 a3] 27)).alloc (.cells #[.int .i64 b1, .int .i64 b2, .int .i64 b3] 27)) (w.heap.size + 1 + 1) 27 b1 b2 b3 := B3.new' _ _ _ _ _ (by simp)
  have M0 := (((MapAt.new w W D H (.slice mp mn mc) (.slice sp sn sc) 25)).alloc (.cells #[.int .i64 a1, .int .i64 a2, .int .i64 a3] 27)).alloc (.cells #[.int .i64 b1, .int .i64 b2, .int .i64 b3] 27)
  have B0 : Below w.heap.size w (((w.alloc (.cells #[.int .i64 W, .int .i64 D, .int .i64 H, .slice mp mn mc, .slice sp sn sc] 25)).alloc (.cells #[.int .i64 a1, .int .i64 a2, .int .i64 a3] 27)).alloc (.cells #[.int .i64 b1, .int .i64 b2, .int .i64 b3] 27)) := (((Below.refl _ _).alloc (Nat.le_refl _) _).alloc (by simp) _).alloc (by simp; omega) _
  obtain ⟨fa, hfa⟩ : ∃ f, (mpOf W D H mn mf).solid (a1 / 65536) (a2 / 65536) (a3 / 65536) = f := ⟨_, rfl⟩
  obtain ⟨fb, hfb⟩ : ∃ f, (mpOf W D H mn mf).solid (b1 / 65536) (b2 / 65536) (b3 / 65536) = f := ⟨_, rfl⟩
  have HM := hid hm; have HS := hid hs; have HFA := hid hfa; have HFB := hid hfb
  clear hm hs hfa hfb
  go_enter Try.func24, Try.ntmps24
  go_upto_region 1 with fail
  generalize (((w.alloc (.cells #[.int .i64 W, .int .i64 D, .int .i64 H, .slice mp mn mc, .slice sp sn sc] 25)).alloc (.cells #[.int .i64 a1, .int .i64 a2, .int .i64 a3] 27)).alloc (.cells #[.int .i64 b1, .int .i64 b2, .int .i64 b3] 27)) = U at *
  have HB := hid B0
  have HA := hid (HM.out.keep B0)
  obtain ⟨_, m0, m1, m2, m3, m4⟩ := M0
  obtain ⟨c0, c1, c2⟩ := A0.cells
  obtain ⟨d0, d1, d2⟩ := C0.cells
  have rm0 := stays m0; have rm1 := stays m1; have rm2 := stays m2; have rm3 := stays m3; have rm4 := stays m4
  have ra0 := stays c0; have ra1 := stays c1; have ra2 := stays c2
  have rb0 := stays d0; have rb1 := stays d1; have rb2 := stays d2
  clear B0 A0 C0 m0 m1 m2 m3 m4 c0 c1 c2 d0 d1 d2 HM
  have k1 := hid (fun V (hV : Below U.heap.size U V) => refCellB a1 ha1 V)
  have k2 := hid (fun V (hV : Below U.heap.size U V) => refCellB a2 ha2 V)
  have k3 := hid (fun V (hV : Below U.heap.size U V) => refCellB a3 ha3 V)
  have k4 := hid (fun V (hV : Below U.heap.size U V) => refSolid W D H mp mn mc mf sp sn sc (a1 / 65536) (a2 / 65536) (a3 / 65536) V (HA.out.keep hV))
  rw [HFA.out] at k4
  refine region_held (fun w' => Below U.heap.size U w') 12 rfl (by kernel_rfl) (below_drewN U 1) ?_
  intro hHeld
  refine takeO 0 (some 15) (v := ?v1) rfl rfl (by kernel_rfl) (by kernel_rfl) (by kernel_rfl) (Or.inl ⟨by rfl, ?y1⟩) hHeld ?r1
  case y1 => (intro w' hSw; (try dsimp only at hSw); go_simp; try with_reducible rfl)
  try simp only [Act.put, List.setIfInBounds_toArray, List.set_cons_zero, List.set_cons_succ]
  refine takeO 1 (some 16) (v := ?v2) rfl rfl (by kernel_rfl) (by kernel_rfl) (by kernel_rfl) (Or.inl ⟨by rfl, ?y2⟩) hHeld ?r2
  case y2 => (intro w' hSw; (try dsimp only at hSw); go_simp; try with_reducible rfl)
  try simp only [Act.put, List.setIfInBounds_toArray, List.set_cons_zero, List.set_cons_succ]
  refine takeO 2 (some 17) (v := ?v3) rfl rfl (by kernel_rfl) (by kernel_rfl) (by kernel_rfl) (Or.inl ⟨by rfl, ?y3⟩) hHeld ?r3
  case y3 => (intro w' hSw; (try dsimp only at hSw); go_simp; try with_reducible rfl)
  try simp only [Act.put, List.setIfInBounds_toArray, List.set_cons_zero, List.set_cons_succ]
  refine takeO 4 (some 19) (v := ?v4) rfl rfl (by kernel_rfl) (by kernel_rfl) (by kernel_rfl) (Or.inl ⟨by rfl, ?y4⟩) hHeld ?r4
  case y4 => (intro w' hSw; (try dsimp only at hSw); go_simp; try with_reducible rfl)
  try simp only [Act.put, List.setIfInBounds_toArray, List.set_cons_zero, List.set_cons_succ]
  refine takeO 5 (some 20) (v := ?v5) rfl rfl (by kernel_rfl) (by kernel_rfl) (by kernel_rfl) (Or.inl ⟨by rfl, ?y5⟩) hHeld ?r5
  case y5 => (intro w' hSw; (try dsimp only at hSw); go_simp; try with_reducible rfl)
  try simp only [Act.put, List.setIfInBounds_toArray, List.set_cons_zero, List.set_cons_succ]
  refine takeO 7 (some 22) (v := ?v6) rfl rfl (by kernel_rfl) (by kernel_rfl) (by kernel_rfl) (Or.inl ⟨by rfl, ?y6⟩) hHeld ?r6
  case y6 => (intro w' hSw; (try dsimp only at hSw); go_simp; try with_reducible rfl)
  try simp only [Act.put, List.setIfInBounds_toArray, List.set_cons_zero, List.set_cons_succ]
  refine takeO 8 (some 23) (v := ?v7) rfl rfl (by kernel_rfl) (by kernel_rfl) (by kernel_rfl) (Or.inl ⟨by rfl, ?y7⟩) hHeld ?r7
  case y7 => (intro w' hSw; (try dsimp only at hSw); go_simp; try with_reducible rfl)
  try simp only [Act.put, List.setIfInBounds_toArray, List.set_cons_zero, List.set_cons_succ]
  refine wpAnyH_ready (rs := [3]) (by kernel_rfl) (by simp) ?_
  refine AllReadyH.cons rfl (fun K hK => ?_) AllReadyH.nil
  go_simp
  refine (k1.out _ (below_drewN U 1)).mono ?_
  rintro e V1 ⟨rfl, q1⟩
  dsimp only
  have HB1 : Below U.heap.size U V1 := Below.trans (below_drewN U 1) q1
  refine hK.out _ _ HB1 (fun hHeld => ?_)
  clear hK K q1
  refine wpAnyH_ready (rs := [6]) (by kernel_rfl) (by simp) ?_
  refine AllReadyH.cons rfl (fun K hK => ?_) AllReadyH.nil
  go_simp
  refine (k2.out _ HB1).mono ?_
  rintro e V2 ⟨rfl, q2⟩
  dsimp only
  have HB2 := btrans HB1 q2
  refine hK.out _ _ HB2 (fun hHeld => ?_)
  clear hK K q2 HB1
  refine wpAnyH_ready (rs := [9]) (by kernel_rfl) (by simp) ?_
  refine AllReadyH.cons rfl (fun K hK => ?_) AllReadyH.nil
  go_simp
  refine (k3.out _ HB2).mono ?_
  rintro e V3 ⟨rfl, q3⟩
  dsimp only
  have HB3 := btrans HB2 q3
  refine hK.out _ _ HB3 (fun hHeld => ?_)
  clear hK K q3 HB2
  refine wpAnyH_ready (rs := [10]) (by kernel_rfl) (by simp) ?_
  refine AllReadyH.cons rfl (fun K hK => ?_) AllReadyH.nil
  go_simp
  refine (k4.out _ HB3).mono ?_
  rintro e V4 ⟨rfl, q4⟩
  dsimp only
  have HB4 := btrans HB3 q4
  refine hK.out _ _ HB4 (fun hHeld => ?_)
  clear hK K q4 HB3
  refine takeO 11 (some 7) (v := ?v8) rfl rfl (by kernel_rfl) (by kernel_rfl) (by kernel_rfl) (Or.inl ⟨by rfl, ?y8⟩) hHeld ?r8
  case y8 => (intro w' hSw; (try dsimp only at hSw); go_simp; try with_reducible rfl)
  try simp only [Act.put, List.setIfInBounds_toArray, List.set_cons_zero, List.set_cons_succ]
  refine wpAnyH_done (by kernel_rfl) (Only.on ?_) _
  clear hHeld
  go_upto_region 2 with fail
  have sm0 := rm0 _ HB4; have sm1 := rm1 _ HB4; have sm2 := rm2 _ HB4; have sm3 := rm3 _ HB4; have sm4 := rm4 _ HB4; have sa0 := ra0 _ HB4; have sa1 := ra1 _ HB4; have sa2 := ra2 _ HB4; have sb0 := rb0 _ HB4; have sb1 := rb1 _ HB4; have sb2 := rb2 _ HB4
  clear rm0 rm1 rm2 rm3 rm4 ra0 ra1 ra2 rb0 rb1 rb2
  have rm0 := stays sm0; have rm1 := stays sm1; have rm2 := stays sm2; have rm3 := stays sm3; have rm4 := stays sm4; have ra0 := stays sa0; have ra1 := stays sa1; have ra2 := stays sa2; have rb0 := stays sb0; have rb1 := stays sb1; have rb2 := stays sb2
  clear sm0 sm1 sm2 sm3 sm4 sa0 sa1 sa2 sb0 sb1 sb2
  have HA := hid (HA.out.keep HB4)
  have HB := hid (btrans HB.out HB4)
  clear HB4 k1 k2 k3 k4
  have k1 := hid (fun V (hV : Below V4.heap.size V4 V) => refCellB b1 hb1 V)
  have k2 := hid (fun V (hV : Below V4.heap.size V4 V) => refCellB b2 hb2 V)
  have k3 := hid (fun V (hV : Below V4.heap.size V4 V) => refCellB b3 hb3 V)
  have k4 := hid (fun V (hV : Below V4.heap.size V4 V) => refSolid W D H mp mn mc mf sp sn sc (b1 / 65536) (b2 / 65536) (b3 / 65536) V (HA.out.keep hV))
  rw [HFB.out] at k4
  refine region_held (fun w' => Below V4.heap.size V4 w') 12 rfl (by kernel_rfl) (below_drewN V4 1) ?_
  intro hHeld
  refine takeO 0 (some 26) (v := ?v9) rfl rfl (by kernel_rfl) (by kernel_rfl) (by kernel_rfl) (Or.inl ⟨by rfl, ?y9⟩) hHeld ?r9
  case y9 => (intro w' hSw; (try dsimp only at hSw); go_simp; try with_reducible rfl)
  try simp only [Act.put, List.setIfInBounds_toArray, List.set_cons_zero, List.set_cons_succ]
  refine takeO 1 (some 27) (v := ?v10) rfl rfl (by kernel_rfl) (by kernel_rfl) (by kernel_rfl) (Or.inl ⟨by rfl, ?y10⟩) hHeld ?r10
  case y10 => (intro w' hSw; (try dsimp only at hSw); go_simp; try with_reducible rfl)
  try simp only [Act.put, List.setIfInBounds_toArray, List.set_cons_zero, List.set_cons_succ]
  refine takeO 2 (some 28) (v := ?v11) rfl rfl (by kernel_rfl) (by kernel_rfl) (by kernel_rfl) (Or.inl ⟨by rfl, ?y11⟩) hHeld ?r11
  case y11 => (intro w' hSw; (try dsimp only at hSw); go_simp; try with_reducible rfl)
  try simp only [Act.put, List.setIfInBounds_toArray, List.set_cons_zero, List.set_cons_succ]
  refine takeO 4 (some 30) (v := ?v12) rfl rfl (by kernel_rfl) (by kernel_rfl) (by kernel_rfl) (Or.inl ⟨by rfl, ?y12⟩) hHeld ?r12
  case y12 => (intro w' hSw; (try dsimp only at hSw); go_simp; try with_reducible rfl)
  try simp only [Act.put, List.setIfInBounds_toArray, List.set_cons_zero, List.set_cons_succ]
  refine takeO 5 (some 31) (v := ?v13) rfl rfl (by kernel_rfl) (by kernel_rfl) (by kernel_rfl) (Or.inl ⟨by rfl, ?y13⟩) hHeld ?r13
  case y13 => (intro w' hSw; (try dsimp only at hSw); go_simp; try with_reducible rfl)
  try simp only [Act.put, List.setIfInBounds_toArray, List.set_cons_zero, List.set_cons_succ]
  refine takeO 7 (some 33) (v := ?v14) rfl rfl (by kernel_rfl) (by kernel_rfl) (by kernel_rfl) (Or.inl ⟨by rfl, ?y14⟩) hHeld ?r14
  case y14 => (intro w' hSw; (try dsimp only at hSw); go_simp; try with_reducible rfl)
  try simp only [Act.put, List.setIfInBounds_toArray, List.set_cons_zero, List.set_cons_succ]
  refine takeO 8 (some 34) (v := ?v15) rfl rfl (by kernel_rfl) (by kernel_rfl) (by kernel_rfl) (Or.inl ⟨by rfl, ?y15⟩) hHeld ?r15
  case y15 => (intro w' hSw; (try dsimp only at hSw); go_simp; try with_reducible rfl)
  try simp only [Act.put, List.setIfInBounds_toArray, List.set_cons_zero, List.set_cons_succ]
  refine wpAnyH_ready (rs := [3]) (by kernel_rfl) (by simp) ?_
  refine AllReadyH.cons rfl (fun K hK => ?_) AllReadyH.nil
  go_simp
  refine (k1.out _ (below_drewN V4 1)).mono ?_
  rintro e V5 ⟨rfl, q5⟩
  dsimp only
  have HB5 : Below V4.heap.size V4 V5 := Below.trans (below_drewN V4 1) q5
  refine hK.out _ _ HB5 (fun hHeld => ?_)
  clear hK K q5
  refine wpAnyH_ready (rs := [6]) (by kernel_rfl) (by simp) ?_
  refine AllReadyH.cons rfl (fun K hK => ?_) AllReadyH.nil
  go_simp
  refine (k2.out _ HB5).mono ?_
  rintro e V6 ⟨rfl, q6⟩
  dsimp only
  have HB6 := btrans HB5 q6
  refine hK.out _ _ HB6 (fun hHeld => ?_)
  clear hK K q6 HB5
  refine wpAnyH_ready (rs := [9]) (by kernel_rfl) (by simp) ?_
  refine AllReadyH.cons rfl (fun K hK => ?_) AllReadyH.nil
  go_simp
  refine (k3.out _ HB6).mono ?_
  rintro e V7 ⟨rfl, q7⟩
  dsimp only
  have HB7 := btrans HB6 q7
  refine hK.out _ _ HB7 (fun hHeld => ?_)
  clear hK K q7 HB6
  refine wpAnyH_ready (rs := [10]) (by kernel_rfl) (by simp) ?_
  refine AllReadyH.cons rfl (fun K hK => ?_) AllReadyH.nil
  go_simp
  refine (k4.out _ HB7).mono ?_
  rintro e V8 ⟨rfl, q8⟩
  dsimp only
  have HB8 := btrans HB7 q8
  refine hK.out _ _ HB8 (fun hHeld => ?_)
  clear hK K q8 HB7
  refine takeO 11 (some 8) (v := ?v16) rfl rfl (by kernel_rfl) (by kernel_rfl) (by kernel_rfl) (Or.inl ⟨by rfl, ?y16⟩) hHeld ?r16
  case y16 => (intro w' hSw; (try dsimp only at hSw); go_simp; try with_reducible rfl)
  try simp only [Act.put, List.setIfInBounds_toArray, List.set_cons_zero, List.set_cons_succ]
  refine wpAnyH_done (by kernel_rfl) (Only.on ?_) _
  clear hHeld
  go_upto_region 3 with fail
  have sm0 := rm0 _ HB8; have sm1 := rm1 _ HB8; have sm2 := rm2 _ HB8; have sm3 := rm3 _ HB8; have sm4 := rm4 _ HB8; have sa0 := ra0 _ HB8; have sa1 := ra1 _ HB8; have sa2 := ra2 _ HB8; have sb0 := rb0 _ HB8; have sb1 := rb1 _ HB8; have sb2 := rb2 _ HB8
  clear rm0 rm1 rm2 rm3 rm4 ra0 ra1 ra2 rb0 rb1 rb2
  have rm0 := stays sm0; have rm1 := stays sm1; have rm2 := stays sm2; have rm3 := stays sm3; have rm4 := stays sm4; have ra0 := stays sa0; have ra1 := stays sa1; have ra2 := stays sa2; have rb0 := stays sb0; have rb1 := stays sb1; have rb2 := stays sb2
  clear sm0 sm1 sm2 sm3 sm4 sa0 sa1 sa2 sb0 sb1 sb2
  have HA := hid (HA.out.keep HB8)
  have HB := hid (btrans HB.out HB8)
  clear HB8 k1 k2 k3 k4
  cases fa with
  | true =>
    obtain rfl : s = false := by
      cases s with
      | false => rfl
      | true => exact absurd (HS.out.1 rfl).ends.1 (Mp.solid_t.1 HFA.out)
    go_wp2
    go_ret
    exact ⟨rfl, HB.out⟩
  | false =>
    cases fb with
    | true =>
      obtain rfl : s = false := by
        cases s with
        | false => rfl
        | true => exact absurd (HS.out.1 rfl).ends.2 (Mp.solid_t.1 HFB.out)
      go_wp2
      go_ret
      exact ⟨rfl, HB.out⟩
    | false =>
      have hfr := Mp.solid_f.1 HFA.out
      have hfr2 := Mp.solid_f.1 HFB.out
      have hra : (0 ≤ a1 ∧ a1 < 2097152) ∧ (0 ≤ a2 ∧ a2 < 2097152) ∧ (0 ≤ a3 ∧ a3 < 2097152) := by
        obtain ⟨⟨g1, g2, g3, g4, g5, g6, g7⟩, q1, q2, q3, q4, q5, q6, _⟩ := hfr
        dsimp only [mpOf] at *
        omega
      have hrb : (0 ≤ b1 ∧ b1 < 2097152) ∧ (0 ≤ b2 ∧ b2 < 2097152) ∧ (0 ≤ b3 ∧ b3 < 2097152) := by
        obtain ⟨⟨g1, g2, g3, g4, g5, g6, g7⟩, q1, q2, q3, q4, q5, q6, _⟩ := hfr2
        dsimp only [mpOf] at *
        omega
      clear hfr hfr2
      have HRA := hid hra; have HRB := hid hrb
      clear hra hrb
      go_upto_region 6 with fail
      have hbb : Below V8.heap.size V8 (V8.alloc (.cells #[.int .i64 0, .int .i64 1, .int .i64 1, .int .i64 1] 64)) := (Below.refl _ _).alloc (Nat.le_refl _) _
      have hP : ArgP (V8.alloc (.cells #[.int .i64 0, .int .i64 1, .int .i64 1, .int .i64 1] 64)) (some ⟨V8.heap.size, 0, none⟩) 2 [(0, 1), (1, 1)] := ⟨by simp, by unfold maxLen; omega, ⟨.inr ⟨V8.heap.size, 0, rfl, by simp, fun j u hu => by
        rw [Nat.zero_add, cell_of_row _ _ _ _ _ _ (heap_alloc_new V8 _)]
        simpa [fl] using hu⟩⟩⟩
      obtain ⟨L, hL⟩ : ∃ b, V8.heap.size = b := ⟨_, rfl⟩
      rw [hL] at hP
      simp only [hL]
      generalize (V8.alloc (.cells #[.int .i64 0, .int .i64 1, .int .i64 1, .int .i64 1] 64)) = U5 at *
      have HA := hid (HA.out.keep hbb)
      have HB := hid (btrans HB.out hbb)
      have pm0 := rm0 _ hbb; have pm1 := rm1 _ hbb; have pm2 := rm2 _ hbb; have pm3 := rm3 _ hbb; have pm4 := rm4 _ hbb; have pa0 := ra0 _ hbb; have pa1 := ra1 _ hbb; have pa2 := ra2 _ hbb; have pb0 := rb0 _ hbb; have pb1 := rb1 _ hbb; have pb2 := rb2 _ hbb
      clear rm0 rm1 rm2 rm3 rm4 ra0 ra1 ra2 rb0 rb1 rb2
      have rm0 := stays pm0; have rm1 := stays pm1; have rm2 := stays pm2; have rm3 := stays pm3; have rm4 := stays pm4; have ra0 := stays pa0; have ra1 := stays pa1; have ra2 := stays pa2; have rb0 := stays pb0; have rb1 := stays pb1; have rb2 := stays pb2
      clear hbb hL
      have hc : Calls Try.prog 46 #[.slice (some ⟨L, 0, none⟩) 2 2, .int .i64 a1, .int .i64 b1] U5 _ := refCross [(0, 1), (1, 1)] a1 b1 HRA.out.1 HRB.out.1 (by simp) (by simp) _ _ U5 hP (Good.start a1 b1 ends_ok.1 ends_ok.2)
      have HC := hid hc
      clear hc hP
      go_wp2_with fail
      refine HC.out.mono ?_; rintro e U6 ⟨q1s, p1, cap1, rfl, hA1, k1, hG1⟩
      have HA1 := hid hA1; have HG1 := hid hG1
      have HA := hid (HA.out.keep k1)
      have HB := hid (btrans HB.out k1)
      clear pm0 pm1 pm2 pm3 pm4 pa0 pa1 pa2 pb0 pb1 pb2
      have pm0 := rm0 _ k1; have pm1 := rm1 _ k1; have pm2 := rm2 _ k1; have pm3 := rm3 _ k1; have pm4 := rm4 _ k1; have pa0 := ra0 _ k1; have pa1 := ra1 _ k1; have pa2 := ra2 _ k1; have pb0 := rb0 _ k1; have pb1 := rb1 _ k1; have pb2 := rb2 _ k1
      clear rm0 rm1 rm2 rm3 rm4 ra0 ra1 ra2 rb0 rb1 rb2
      have rm0 := stays pm0; have rm1 := stays pm1; have rm2 := stays pm2; have rm3 := stays pm3; have rm4 := stays pm4; have ra0 := stays pa0; have ra1 := stays pa1; have ra2 := stays pa2; have rb0 := stays pb0; have rb1 := stays pb1; have rb2 := stays pb2
      clear k1 hA1 hG1 HC
      have ne1 : q1s ≠ [] := fun e => by have := HG1.out.sub (0, 1) (by simp); rw [e] at this; simp at this
      have hc := refCross q1s a2 b2 HRA.out.2.1 HRB.out.2.1 ne1 (by have := HG1.out.most; simp at this; omega) _ _ U6 HA1.out (Good.start a2 b2 HG1.out.ok HG1.out.up)
      have HC := hid hc
      clear hc
      go_wp2_with fail
      refine HC.out.mono ?_; rintro e U7 ⟨q2s, p2, cap2, rfl, hA2, k1, hG2⟩
      have HA2 := hid hA2; have HG2 := hid hG2
      have HA := hid (HA.out.keep k1)
      have HB := hid (btrans HB.out k1)
      clear pm0 pm1 pm2 pm3 pm4 pa0 pa1 pa2 pb0 pb1 pb2
      have pm0 := rm0 _ k1; have pm1 := rm1 _ k1; have pm2 := rm2 _ k1; have pm3 := rm3 _ k1; have pm4 := rm4 _ k1; have pa0 := ra0 _ k1; have pa1 := ra1 _ k1; have pa2 := ra2 _ k1; have pb0 := rb0 _ k1; have pb1 := rb1 _ k1; have pb2 := rb2 _ k1
      clear rm0 rm1 rm2 rm3 rm4 ra0 ra1 ra2 rb0 rb1 rb2
      have rm0 := stays pm0; have rm1 := stays pm1; have rm2 := stays pm2; have rm3 := stays pm3; have rm4 := stays pm4; have ra0 := stays pa0; have ra1 := stays pa1; have ra2 := stays pa2; have rb0 := stays pb0; have rb1 := stays pb1; have rb2 := stays pb2
      clear k1 hA2 hG2 HC HA1 ne1
      have ne2 : q2s ≠ [] := fun e => by have := HG2.out.sub (0, 1) (HG1.out.sub (0, 1) (by simp)); rw [e] at this; simp at this
      have hc := refCross q2s a3 b3 HRA.out.2.2 HRB.out.2.2 ne2 (by have h1 := HG1.out.most; have h2 := HG2.out.most; simp at h1; omega) _ _ U7 HA2.out (Good.start a3 b3 HG2.out.ok HG2.out.up)
      have HC := hid hc
      clear hc
      go_wp2_with fail
      refine HC.out.mono ?_; rintro e U8 ⟨qs, p3, cap3, rfl, hA3, k1, hG3⟩
      have HA3 := hid hA3
      have HA := hid (HA.out.keep k1)
      have HB := hid (btrans HB.out k1)
      clear pm0 pm1 pm2 pm3 pm4 pa0 pa1 pa2 pb0 pb1 pb2
      have pm0 := rm0 _ k1; have pm1 := rm1 _ k1; have pm2 := rm2 _ k1; have pm3 := rm3 _ k1; have pm4 := rm4 _ k1; have pa0 := ra0 _ k1; have pa1 := ra1 _ k1; have pa2 := ra2 _ k1; have pb0 := rb0 _ k1; have pb1 := rb1 _ k1; have pb2 := rb2 _ k1
      clear rm0 rm1 rm2 rm3 rm4 ra0 ra1 ra2 rb0 rb1 rb2
      have rm0 := stays pm0; have rm1 := stays pm1; have rm2 := stays pm2; have rm3 := stays pm3; have rm4 := stays pm4; have ra0 := stays pa0; have ra1 := stays pa1; have ra2 := stays pa2; have rb0 := stays pb0; have rb1 := stays pb1; have rb2 := stays pb2
      clear pm0 pm1 pm2 pm3 pm4 pa0 pa1 pa2 pb0 pb1 pb2
      clear k1 hA3 HC HA2 ne2
      have hOK := hG3.ok
      have hsee := Mp.sees_row (M := (mpOf W D H mn mf)) (a := ⟨a1, a2, a3⟩) (b := ⟨b1, b2, b3⟩) hG3.ok hG3.up (hG3.sub _ (HG2.out.sub _ (HG1.out.sub (0, 1) (by simp)))) (hG3.sub _ (HG2.out.sub _ (HG1.out.sub (1, 1) (by simp)))) HRA.out.1 HRA.out.2.1 HRA.out.2.2 HRB.out.1 HRB.out.2.1 HRB.out.2.2 ((HG1.out.hits.mono HG2.out.sub).mono hG3.sub) (HG2.out.hits.mono hG3.sub) hG3.hits (X := fun i => atI a1 b1 (nth qs i).1 (nth qs i).2) (Y := fun i => atI a2 b2 (nth qs i).1 (nth qs i).2) (Z := fun i => atI a3 b3 (nth qs i).1 (nth qs i).2) (fun _ => rfl) (fun _ => rfl) (fun _ => rfl)
      have hq300 : qs.length ≤ 300 := by have h1 := HG1.out.most; have h2 := HG2.out.most; have h3 := hG3.most; simp at h1; omega
      dsimp only at hsee
      have HSEE := hid (HS.out.trans hsee)
      have HOK := hid hOK
      clear hsee hOK hG3 HG1 HG2 HS HFA HFB
      obtain ⟨n, hn⟩ : ∃ n, qs.length = n := ⟨_, rfl⟩
      rw [hn] at HSEE hq300
      simp only [hn]
      have HN := hid hn
      clear hn
      go_wp2
      go_loopw [10] (fun v wr => ∃ i : Nat, v = .int .i64 i ∧ i ≤ n ∧ Hid (∀ j, j < i → (mpOf W D H mn mf).Free (atI a1 b1 (nth qs j).1 (nth qs j).2) (atI a2 b2 (nth qs j).1 (nth qs j).2) (atI a3 b3 (nth qs j).1 (nth qs j).2)) ∧ Hid (∀ j, j + 1 < i → (mpOf W D H mn mf).Free (if b1 < a1 then atI a1 b1 (nth qs (j + 1)).1 (nth qs (j + 1)).2 else atI a1 b1 (nth qs j).1 (nth qs j).2) (if b2 < a2 then atI a2 b2 (nth qs (j + 1)).1 (nth qs (j + 1)).2 else atI a2 b2 (nth qs j).1 (nth qs j).2) (if b3 < a3 then atI a3 b3 (nth qs (j + 1)).1 (nth qs (j + 1)).2 else atI a3 b3 (nth qs j).1 (nth qs j).2)) ∧ Below U8.heap.size U8 wr) (fun v _ => n - (intOf v).toNat)
      case atStart => exact ⟨0, rfl, Nat.zero_le _, hid (fun j h => by omega), hid (fun j h => by omega), Below.refl _ _⟩
      case round =>
        obtain ⟨i, rfl, hi, hF, hT, hbr⟩ := hrel
        by_cases hlt : i < n
        · skip
          have hin : i < qs.length := by rw [HN.out]; exact hlt
          obtain ⟨g, o, hgo, hg, hc⟩ := (HA3.out.keep hbr).src.at (by intro e; rw [e] at hin; simp at hin)
          subst hgo
          obtain ⟨l0, l1⟩ := hc i hin
          rw [← nth_get hin] at l0 l1
          have hok := HOK.out _ (List.getElem_mem hin)
          rw [← nth_get hin] at hok
          have hprev : 0 < i → (PartOk (nth qs (i - 1)) ∧ wr.cell? ⟨g, o + (i - 1) * 2, none⟩ = some (.int .i64 (nth qs (i - 1)).1) ∧ wr.cell? ⟨g, o + (i - 1) * 2 + 1, none⟩ = some (.int .i64 (nth qs (i - 1)).2)) := by
            intro h0
            have hin2 : i - 1 < qs.length := by omega
            have h2 := hc (i - 1) hin2
            have h3 := HOK.out _ (List.getElem_mem hin2)
            rw [nth_get hin2]; exact ⟨h3, h2.1, h2.2⟩
          have HPREV := hid hprev
          obtain ⟨e, he⟩ : ∃ e, nth qs i = e := ⟨_, rfl⟩
          have HE := hid he
          rw [he] at l0 l1 hok
          obtain ⟨t1, t2⟩ := e
          dsimp only at l0 l1
          clear hc hprev he
          have pm0 := rm0 _ hbr; have pm1 := rm1 _ hbr; have pm2 := rm2 _ hbr; have pm3 := rm3 _ hbr; have pm4 := rm4 _ hbr; have pa0 := ra0 _ hbr; have pa1 := ra1 _ hbr; have pa2 := ra2 _ hbr; have pb0 := rb0 _ hbr; have pb1 := rb1 _ hbr; have pb2 := rb2 _ hbr
          go_upto_region 13 with fail
          have hbb : Below wr.heap.size wr (wr.alloc (.cells #[.int .i64 t1, .int .i64 t2] 64)) := (Below.refl _ _).alloc (Nat.le_refl _) _
          have st0 : (wr.alloc (.cells #[.int .i64 t1, .int .i64 t2] 64)).cell? ⟨wr.heap.size, 0, none⟩ = some (.int .i64 t1) := by simp [go_sem]
          have st1 : (wr.alloc (.cells #[.int .i64 t1, .int .i64 t2] 64)).cell? ⟨wr.heap.size, 1, none⟩ = some (.int .i64 t2) := by simp [go_sem]
          obtain ⟨bt, hbt⟩ : ∃ b, wr.heap.size = b := ⟨_, rfl⟩
          rw [hbt] at st0 st1
          simp only [hbt]
          generalize wr.alloc (.cells #[.int .i64 t1, .int .i64 t2] 64) = W2 at *
          have hB2 := btrans hbr hbb
          have HPREV := hid (fun h0 => (⟨(HPREV.out h0).1, keepBox hbb (HPREV.out h0).2.1, keepBox hbb (HPREV.out h0).2.2⟩ : PartOk (nth qs (i - 1)) ∧ W2.cell? ⟨g, o + (i - 1) * 2, none⟩ = some (.int .i64 (nth qs (i - 1)).1) ∧ W2.cell? ⟨g, o + (i - 1) * 2 + 1, none⟩ = some (.int .i64 (nth qs (i - 1)).2)))
          have zm0 := stays (rm0 _ hB2); have zm1 := stays (rm1 _ hB2); have zm2 := stays (rm2 _ hB2); have zm3 := stays (rm3 _ hB2); have zm4 := stays (rm4 _ hB2); have za0 := stays (ra0 _ hB2); have za1 := stays (ra1 _ hB2); have za2 := stays (ra2 _ hB2); have zb0 := stays (rb0 _ hB2); have zb1 := stays (rb1 _ hB2); have zb2 := stays (rb2 _ hB2)
          have zt0 := stays st0; have zt1 := stays st1
          clear pm0 pm1 pm2 pm3 pm4 pa0 pa1 pa2 pb0 pb1 pb2 rm0 rm1 rm2 rm3 rm4 ra0 ra1 ra2 rb0 rb1 rb2 l0 l1 st0 st1 hbb hbt
          have HAW := hid (HA.out.keep hB2)
          obtain ⟨f1, hf1⟩ : ∃ f, (mpOf W D H mn mf).solid (atI a1 b1 t1 t2) (atI a2 b2 t1 t2) (atI a3 b3 t1 t2) = f := ⟨_, rfl⟩
          have HF1 := hid hf1
          have k1 := hid (fun V (hV : Below W2.heap.size W2 V) => refAtP a1 b1 t1 t2 HRA.out.1 HRB.out.1 hok V)
          have k2 := hid (fun V (hV : Below W2.heap.size W2 V) => refAtP a2 b2 t1 t2 HRA.out.2.1 HRB.out.2.1 hok V)
          have k3 := hid (fun V (hV : Below W2.heap.size W2 V) => refAtP a3 b3 t1 t2 HRA.out.2.2 HRB.out.2.2 hok V)
          have k4 := hid (fun V (hV : Below W2.heap.size W2 V) => refSolid W D H mp mn mc mf sp sn sc (atI a1 b1 t1 t2) (atI a2 b2 t1 t2) (atI a3 b3 t1 t2) V (HAW.out.keep hV))
          rw [hf1] at k4
          have HK := hid hok
          clear hf1 hok
          refine region_held (fun w' => Below W2.heap.size W2 w') 21 rfl (by kernel_rfl) (below_drewN W2 1) ?_
          intro hHeld
          refine takeO 0 (some 72) (v := ?v17) rfl rfl (by kernel_rfl) (by kernel_rfl) (by kernel_rfl) (Or.inl ⟨by rfl, ?y17⟩) hHeld ?r17
          case y17 => (intro w' hSw; (try dsimp only at hSw); go_simp; try with_reducible rfl)
          try simp only [Act.put, List.setIfInBounds_toArray, List.set_cons_zero, List.set_cons_succ]
          refine takeO 1 (some 73) (v := ?v18) rfl rfl (by kernel_rfl) (by kernel_rfl) (by kernel_rfl) (Or.inl ⟨by rfl, ?y18⟩) hHeld ?r18
          case y18 => (intro w' hSw; (try dsimp only at hSw); go_simp; try with_reducible rfl)
          try simp only [Act.put, List.setIfInBounds_toArray, List.set_cons_zero, List.set_cons_succ]
          refine takeO 2 (some 74) (v := ?v19) rfl rfl (by kernel_rfl) (by kernel_rfl) (by kernel_rfl) (Or.inl ⟨by rfl, ?y19⟩) hHeld ?r19
          case y19 => (intro w' hSw; (try dsimp only at hSw); go_simp; try with_reducible rfl)
          try simp only [Act.put, List.setIfInBounds_toArray, List.set_cons_zero, List.set_cons_succ]
          refine takeO 3 (some 75) (v := ?v20) rfl rfl (by kernel_rfl) (by kernel_rfl) (by kernel_rfl) (Or.inl ⟨by rfl, ?y20⟩) hHeld ?r20
          case y20 => (intro w' hSw; (try dsimp only at hSw); go_simp; try with_reducible rfl)
          try simp only [Act.put, List.setIfInBounds_toArray, List.set_cons_zero, List.set_cons_succ]
          refine takeO 4 (some 76) (v := ?v21) rfl rfl (by kernel_rfl) (by kernel_rfl) (by kernel_rfl) (Or.inl ⟨by rfl, ?y21⟩) hHeld ?r21
          case y21 => (intro w' hSw; (try dsimp only at hSw); go_simp; try with_reducible rfl)
          try simp only [Act.put, List.setIfInBounds_toArray, List.set_cons_zero, List.set_cons_succ]
          refine takeO 5 (some 77) (v := ?v22) rfl rfl (by kernel_rfl) (by kernel_rfl) (by kernel_rfl) (Or.inl ⟨by rfl, ?y22⟩) hHeld ?r22
          case y22 => (intro w' hSw; (try dsimp only at hSw); go_simp; try with_reducible rfl)
          try simp only [Act.put, List.setIfInBounds_toArray, List.set_cons_zero, List.set_cons_succ]
          refine takeO 7 (some 79) (v := ?v23) rfl rfl (by kernel_rfl) (by kernel_rfl) (by kernel_rfl) (Or.inl ⟨by rfl, ?y23⟩) hHeld ?r23
          case y23 => (intro w' hSw; (try dsimp only at hSw); go_simp; try with_reducible rfl)
          try simp only [Act.put, List.setIfInBounds_toArray, List.set_cons_zero, List.set_cons_succ]
          refine takeO 8 (some 80) (v := ?v24) rfl rfl (by kernel_rfl) (by kernel_rfl) (by kernel_rfl) (Or.inl ⟨by rfl, ?y24⟩) hHeld ?r24
          case y24 => (intro w' hSw; (try dsimp only at hSw); go_simp; try with_reducible rfl)
          try simp only [Act.put, List.setIfInBounds_toArray, List.set_cons_zero, List.set_cons_succ]
          refine takeO 9 (some 81) (v := ?v25) rfl rfl (by kernel_rfl) (by kernel_rfl) (by kernel_rfl) (Or.inl ⟨by rfl, ?y25⟩) hHeld ?r25
          case y25 => (intro w' hSw; (try dsimp only at hSw); go_simp; try with_reducible rfl)
          try simp only [Act.put, List.setIfInBounds_toArray, List.set_cons_zero, List.set_cons_succ]
          refine takeO 10 (some 82) (v := ?v26) rfl rfl (by kernel_rfl) (by kernel_rfl) (by kernel_rfl) (Or.inl ⟨by rfl, ?y26⟩) hHeld ?r26
          case y26 => (intro w' hSw; (try dsimp only at hSw); go_simp; try with_reducible rfl)
          try simp only [Act.put, List.setIfInBounds_toArray, List.set_cons_zero, List.set_cons_succ]
          refine takeO 11 (some 83) (v := ?v27) rfl rfl (by kernel_rfl) (by kernel_rfl) (by kernel_rfl) (Or.inl ⟨by rfl, ?y27⟩) hHeld ?r27
          case y27 => (intro w' hSw; (try dsimp only at hSw); go_simp; try with_reducible rfl)
          try simp only [Act.put, List.setIfInBounds_toArray, List.set_cons_zero, List.set_cons_succ]
          refine takeO 13 (some 85) (v := ?v28) rfl rfl (by kernel_rfl) (by kernel_rfl) (by kernel_rfl) (Or.inl ⟨by rfl, ?y28⟩) hHeld ?r28
          case y28 => (intro w' hSw; (try dsimp only at hSw); go_simp; try with_reducible rfl)
          try simp only [Act.put, List.setIfInBounds_toArray, List.set_cons_zero, List.set_cons_succ]
          refine takeO 14 (some 86) (v := ?v29) rfl rfl (by kernel_rfl) (by kernel_rfl) (by kernel_rfl) (Or.inl ⟨by rfl, ?y29⟩) hHeld ?r29
          case y29 => (intro w' hSw; (try dsimp only at hSw); go_simp; try with_reducible rfl)
          try simp only [Act.put, List.setIfInBounds_toArray, List.set_cons_zero, List.set_cons_succ]
          refine takeO 15 (some 87) (v := ?v30) rfl rfl (by kernel_rfl) (by kernel_rfl) (by kernel_rfl) (Or.inl ⟨by rfl, ?y30⟩) hHeld ?r30
          case y30 => (intro w' hSw; (try dsimp only at hSw); go_simp; try with_reducible rfl)
          try simp only [Act.put, List.setIfInBounds_toArray, List.set_cons_zero, List.set_cons_succ]
          refine takeO 16 (some 88) (v := ?v31) rfl rfl (by kernel_rfl) (by kernel_rfl) (by kernel_rfl) (Or.inl ⟨by rfl, ?y31⟩) hHeld ?r31
          case y31 => (intro w' hSw; (try dsimp only at hSw); go_simp; try with_reducible rfl)
          try simp only [Act.put, List.setIfInBounds_toArray, List.set_cons_zero, List.set_cons_succ]
          refine takeO 17 (some 89) (v := ?v32) rfl rfl (by kernel_rfl) (by kernel_rfl) (by kernel_rfl) (Or.inl ⟨by rfl, ?y32⟩) hHeld ?r32
          case y32 => (intro w' hSw; (try dsimp only at hSw); go_simp; try with_reducible rfl)
          try simp only [Act.put, List.setIfInBounds_toArray, List.set_cons_zero, List.set_cons_succ]
          refine wpAnyH_ready (rs := [6]) (by kernel_rfl) (by simp) ?_
          refine AllReadyH.cons rfl (fun K hK => ?_) AllReadyH.nil
          go_simp
          refine (k1.out _ (below_drewN W2 1)).mono ?_
          rintro e V21 ⟨rfl, q21⟩
          dsimp only
          have HB21 : Below W2.heap.size W2 V21 := Below.trans (below_drewN W2 1) q21
          refine hK.out _ _ HB21 (fun hHeld => ?_)
          clear hK K q21
          refine wpAnyH_ready (rs := [12]) (by kernel_rfl) (by simp) ?_
          refine AllReadyH.cons rfl (fun K hK => ?_) AllReadyH.nil
          go_simp
          refine (k2.out _ HB21).mono ?_
          rintro e V22 ⟨rfl, q22⟩
          dsimp only
          have HB22 := btrans HB21 q22
          refine hK.out _ _ HB22 (fun hHeld => ?_)
          clear hK K q22 HB21
          refine wpAnyH_ready (rs := [18]) (by kernel_rfl) (by simp) ?_
          refine AllReadyH.cons rfl (fun K hK => ?_) AllReadyH.nil
          go_simp
          refine (k3.out _ HB22).mono ?_
          rintro e V23 ⟨rfl, q23⟩
          dsimp only
          have HB23 := btrans HB22 q23
          refine hK.out _ _ HB23 (fun hHeld => ?_)
          clear hK K q23 HB22
          refine wpAnyH_ready (rs := [19]) (by kernel_rfl) (by simp) ?_
          refine AllReadyH.cons rfl (fun K hK => ?_) AllReadyH.nil
          go_simp
          refine (k4.out _ HB23).mono ?_
          rintro e V24 ⟨rfl, q24⟩
          dsimp only
          have HB24 := btrans HB23 q24
          refine hK.out _ _ HB24 (fun hHeld => ?_)
          clear hK K q24 HB23
          refine takeO 20 (some 12) (v := ?v33) rfl rfl (by kernel_rfl) (by kernel_rfl) (by kernel_rfl) (Or.inl ⟨by rfl, ?y33⟩) hHeld ?r33
          case y33 => (intro w' hSw; (try dsimp only at hSw); go_simp; try with_reducible rfl)
          try simp only [Act.put, List.setIfInBounds_toArray, List.set_cons_zero, List.set_cons_succ]
          refine wpAnyH_done (by kernel_rfl) (Only.on ?_) _
          clear hHeld
          go_upto_region 14 with fail
          have hB3 := btrans hB2 HB24
          have HPREV := hid (fun h0 => (⟨(HPREV.out h0).1, keepBox HB24 (HPREV.out h0).2.1, keepBox HB24 (HPREV.out h0).2.2⟩ : PartOk (nth qs (i - 1)) ∧ V24.cell? ⟨g, o + (i - 1) * 2, none⟩ = some (.int .i64 (nth qs (i - 1)).1) ∧ V24.cell? ⟨g, o + (i - 1) * 2 + 1, none⟩ = some (.int .i64 (nth qs (i - 1)).2)))
          have pm0 := zm0 _ HB24; have pm1 := zm1 _ HB24; have pm2 := zm2 _ HB24; have pm3 := zm3 _ HB24; have pm4 := zm4 _ HB24; have pa0 := za0 _ HB24; have pa1 := za1 _ HB24; have pa2 := za2 _ HB24; have pb0 := zb0 _ HB24; have pb1 := zb1 _ HB24; have pb2 := zb2 _ HB24; have pt0 := zt0 _ HB24; have pt1 := zt1 _ HB24
          clear zm0 zm1 zm2 zm3 zm4 za0 za1 za2 zb0 zb1 zb2 zt0 zt1 HB24 hB2 hbr k1 k2 k3 k4
          cases f1 with
          | true =>
            have hf : s = false := by
              cases s with
              | false => rfl
              | true =>
                have := (HSEE.out.1 rfl).1 i (by first | exact hlt | (rw [HN.out]; exact hlt))
                rw [HE.out] at this
                exact absurd this (Mp.solid_t.1 HF1.out)
            subst hf
            go_wp2
            go_ret
            exact ⟨rfl, btrans HB.out hB3⟩
          | false =>
            have hF2 : Hid (∀ j, j < i + 1 → (mpOf W D H mn mf).Free (atI a1 b1 (nth qs j).1 (nth qs j).2) (atI a2 b2 (nth qs j).1 (nth qs j).2) (atI a3 b3 (nth qs j).1 (nth qs j).2)) := hid (fun j hj => by
              by_cases e : j = i
              · subst e; rw [HE.out]; exact Mp.solid_f.1 HF1.out
              · exact hF.out j (by omega))
            by_cases hi0 : i = 0
            · subst hi0
              have hT2 := hT
              clear pm0 pm1 pm2 pm3 pm4 pa0 pa1 pa2 pb0 pb1 pb2 pt0 pt1
              go_wp2
              exact ⟨⟨1, by go_num, by omega, hF2, hid (fun j h => by omega), hB3⟩, by simp [intOf]; omega⟩
            · have hpos : 0 < i := by omega
              obtain ⟨hok2, l0, l1⟩ := HPREV.out hpos
              obtain ⟨i', hi'⟩ : ∃ i', i = i' + 1 := ⟨i - 1, by omega⟩
              subst hi'
              rw [Nat.add_sub_cancel] at hok2 l0 l1
              obtain ⟨e, he⟩ : ∃ e, nth qs i' = e := ⟨_, rfl⟩
              have HE2 := hid he
              rw [he] at l0 l1 hok2
              obtain ⟨u1, u2⟩ := e
              dsimp only at l0 l1
              clear he HPREV
              have ei : ((i' + 1 : Nat) : Int) = (i' : Int) + 1 := by omega
              have ej : (i' : Int) + 1 - 1 = (i' : Int) := by omega
              have hi'n : i' < n := by omega
              go_upto_region 18 with fail
              have hbb : Below V24.heap.size V24 (V24.alloc (.cells #[.int .i64 u1, .int .i64 u2] 64)) := (Below.refl _ _).alloc (Nat.le_refl _) _
              have su0 : (V24.alloc (.cells #[.int .i64 u1, .int .i64 u2] 64)).cell? ⟨V24.heap.size, 0, none⟩ = some (.int .i64 u1) := by simp [go_sem]
              have su1 : (V24.alloc (.cells #[.int .i64 u1, .int .i64 u2] 64)).cell? ⟨V24.heap.size, 1, none⟩ = some (.int .i64 u2) := by simp [go_sem]
              obtain ⟨bu, hbu⟩ : ∃ b, V24.heap.size = b := ⟨_, rfl⟩
              rw [hbu] at su0 su1
              simp only [hbu]
              have ym0 := keepBox hbb pm0; have ym1 := keepBox hbb pm1; have ym2 := keepBox hbb pm2; have ym3 := keepBox hbb pm3; have ym4 := keepBox hbb pm4; have ya0 := keepBox hbb pa0; have ya1 := keepBox hbb pa1; have ya2 := keepBox hbb pa2; have yb0 := keepBox hbb pb0; have yb1 := keepBox hbb pb1; have yb2 := keepBox hbb pb2; have yt0 := keepBox hbb pt0; have yt1 := keepBox hbb pt1
              generalize (V24.alloc (.cells #[.int .i64 u1, .int .i64 u2] 64)) = W3 at *
              have hB4 := btrans hB3 hbb
              have zm0 := stays ym0; have zm1 := stays ym1; have zm2 := stays ym2; have zm3 := stays ym3; have zm4 := stays ym4; have za0 := stays ya0; have za1 := stays ya1; have za2 := stays ya2; have zb0 := stays yb0; have zb1 := stays yb1; have zb2 := stays yb2; have zt0 := stays yt0; have zt1 := stays yt1
              have zu0 := stays su0; have zu1 := stays su1
              clear pm0 ym0 pm1 ym1 pm2 ym2 pm3 ym3 pm4 ym4 pa0 ya0 pa1 ya1 pa2 ya2 pb0 yb0 pb1 yb1 pb2 yb2 pt0 yt0 pt1 yt1 l0 l1 su0 su1 hbb hbu
              have HAX := hid (HA.out.keep hB4)
              obtain ⟨f2, hf2⟩ : ∃ f, (mpOf W D H mn mf).solid (if b1 < a1 then atI a1 b1 t1 t2 else atI a1 b1 u1 u2) (if b2 < a2 then atI a2 b2 t1 t2 else atI a2 b2 u1 u2) (if b3 < a3 then atI a3 b3 t1 t2 else atI a3 b3 u1 u2) = f := ⟨_, rfl⟩
              have HF2 := hid hf2
              have k1 := hid (fun V (hV : Below W3.heap.size W3 V) => refBetweenP a1 b1 u1 u2 t1 t2 HRA.out.1 HRB.out.1 hok2 HK.out V)
              have k2 := hid (fun V (hV : Below W3.heap.size W3 V) => refBetweenP a2 b2 u1 u2 t1 t2 HRA.out.2.1 HRB.out.2.1 hok2 HK.out V)
              have k3 := hid (fun V (hV : Below W3.heap.size W3 V) => refBetweenP a3 b3 u1 u2 t1 t2 HRA.out.2.2 HRB.out.2.2 hok2 HK.out V)
              have k4 := hid (fun V (hV : Below W3.heap.size W3 V) => refSolid W D H mp mn mc mf sp sn sc (if b1 < a1 then atI a1 b1 t1 t2 else atI a1 b1 u1 u2) (if b2 < a2 then atI a2 b2 t1 t2 else atI a2 b2 u1 u2) (if b3 < a3 then atI a3 b3 t1 t2 else atI a3 b3 u1 u2) V (HAX.out.keep hV))
              rw [hf2] at k4
              clear hf2
              obtain ⟨n1, hn1⟩ : ∃ x, (if b1 < a1 then atI a1 b1 t1 t2 else atI a1 b1 u1 u2) = x := ⟨_, rfl⟩
              obtain ⟨n2, hn2⟩ : ∃ x, (if b2 < a2 then atI a2 b2 t1 t2 else atI a2 b2 u1 u2) = x := ⟨_, rfl⟩
              obtain ⟨n3, hn3⟩ : ∃ x, (if b3 < a3 then atI a3 b3 t1 t2 else atI a3 b3 u1 u2) = x := ⟨_, rfl⟩
              rw [hn1] at k1 k4 HF2
              rw [hn2] at k2 k4 HF2
              rw [hn3] at k3 k4 HF2
              have HN1 := hid hn1; have HN2 := hid hn2; have HN3 := hid hn3
              clear hn1 hn2 hn3
              refine region_held (fun w' => Below W3.heap.size W3 w') 24 rfl (by kernel_rfl) (below_drewN W3 1) ?_
              intro hHeld
              refine takeO 0 (some 100) (v := ?v34) rfl rfl (by kernel_rfl) (by kernel_rfl) (by kernel_rfl) (Or.inl ⟨by rfl, ?y34⟩) hHeld ?r34
              case y34 => (intro w' hSw; (try dsimp only at hSw); go_simp; try with_reducible rfl)
              try simp only [Act.put, List.setIfInBounds_toArray, List.set_cons_zero, List.set_cons_succ]
              refine takeO 1 (some 101) (v := ?v35) rfl rfl (by kernel_rfl) (by kernel_rfl) (by kernel_rfl) (Or.inl ⟨by rfl, ?y35⟩) hHeld ?r35
              case y35 => (intro w' hSw; (try dsimp only at hSw); go_simp; try with_reducible rfl)
              try simp only [Act.put, List.setIfInBounds_toArray, List.set_cons_zero, List.set_cons_succ]
              refine takeO 2 (some 102) (v := ?v36) rfl rfl (by kernel_rfl) (by kernel_rfl) (by kernel_rfl) (Or.inl ⟨by rfl, ?y36⟩) hHeld ?r36
              case y36 => (intro w' hSw; (try dsimp only at hSw); go_simp; try with_reducible rfl)
              try simp only [Act.put, List.setIfInBounds_toArray, List.set_cons_zero, List.set_cons_succ]
              refine takeO 3 (some 103) (v := ?v37) rfl rfl (by kernel_rfl) (by kernel_rfl) (by kernel_rfl) (Or.inl ⟨by rfl, ?y37⟩) hHeld ?r37
              case y37 => (intro w' hSw; (try dsimp only at hSw); go_simp; try with_reducible rfl)
              try simp only [Act.put, List.setIfInBounds_toArray, List.set_cons_zero, List.set_cons_succ]
              refine takeO 4 (some 104) (v := ?v38) rfl rfl (by kernel_rfl) (by kernel_rfl) (by kernel_rfl) (Or.inl ⟨by rfl, ?y38⟩) hHeld ?r38
              case y38 => (intro w' hSw; (try dsimp only at hSw); go_simp; try with_reducible rfl)
              try simp only [Act.put, List.setIfInBounds_toArray, List.set_cons_zero, List.set_cons_succ]
              refine takeO 5 (some 105) (v := ?v39) rfl rfl (by kernel_rfl) (by kernel_rfl) (by kernel_rfl) (Or.inl ⟨by rfl, ?y39⟩) hHeld ?r39
              case y39 => (intro w' hSw; (try dsimp only at hSw); go_simp; try with_reducible rfl)
              try simp only [Act.put, List.setIfInBounds_toArray, List.set_cons_zero, List.set_cons_succ]
              refine takeO 6 (some 106) (v := ?v40) rfl rfl (by kernel_rfl) (by kernel_rfl) (by kernel_rfl) (Or.inl ⟨by rfl, ?y40⟩) hHeld ?r40
              case y40 => (intro w' hSw; (try dsimp only at hSw); go_simp; try with_reducible rfl)
              try simp only [Act.put, List.setIfInBounds_toArray, List.set_cons_zero, List.set_cons_succ]
              refine takeO 8 (some 108) (v := ?v41) rfl rfl (by kernel_rfl) (by kernel_rfl) (by kernel_rfl) (Or.inl ⟨by rfl, ?y41⟩) hHeld ?r41
              case y41 => (intro w' hSw; (try dsimp only at hSw); go_simp; try with_reducible rfl)
              try simp only [Act.put, List.setIfInBounds_toArray, List.set_cons_zero, List.set_cons_succ]
              refine takeO 9 (some 109) (v := ?v42) rfl rfl (by kernel_rfl) (by kernel_rfl) (by kernel_rfl) (Or.inl ⟨by rfl, ?y42⟩) hHeld ?r42
              case y42 => (intro w' hSw; (try dsimp only at hSw); go_simp; try with_reducible rfl)
              try simp only [Act.put, List.setIfInBounds_toArray, List.set_cons_zero, List.set_cons_succ]
              refine takeO 10 (some 110) (v := ?v43) rfl rfl (by kernel_rfl) (by kernel_rfl) (by kernel_rfl) (Or.inl ⟨by rfl, ?y43⟩) hHeld ?r43
              case y43 => (intro w' hSw; (try dsimp only at hSw); go_simp; try with_reducible rfl)
              try simp only [Act.put, List.setIfInBounds_toArray, List.set_cons_zero, List.set_cons_succ]
              refine takeO 11 (some 111) (v := ?v44) rfl rfl (by kernel_rfl) (by kernel_rfl) (by kernel_rfl) (Or.inl ⟨by rfl, ?y44⟩) hHeld ?r44
              case y44 => (intro w' hSw; (try dsimp only at hSw); go_simp; try with_reducible rfl)
              try simp only [Act.put, List.setIfInBounds_toArray, List.set_cons_zero, List.set_cons_succ]
              refine takeO 12 (some 112) (v := ?v45) rfl rfl (by kernel_rfl) (by kernel_rfl) (by kernel_rfl) (Or.inl ⟨by rfl, ?y45⟩) hHeld ?r45
              case y45 => (intro w' hSw; (try dsimp only at hSw); go_simp; try with_reducible rfl)
              try simp only [Act.put, List.setIfInBounds_toArray, List.set_cons_zero, List.set_cons_succ]
              refine takeO 13 (some 113) (v := ?v46) rfl rfl (by kernel_rfl) (by kernel_rfl) (by kernel_rfl) (Or.inl ⟨by rfl, ?y46⟩) hHeld ?r46
              case y46 => (intro w' hSw; (try dsimp only at hSw); go_simp; try with_reducible rfl)
              try simp only [Act.put, List.setIfInBounds_toArray, List.set_cons_zero, List.set_cons_succ]
              refine takeO 15 (some 115) (v := ?v47) rfl rfl (by kernel_rfl) (by kernel_rfl) (by kernel_rfl) (Or.inl ⟨by rfl, ?y47⟩) hHeld ?r47
              case y47 => (intro w' hSw; (try dsimp only at hSw); go_simp; try with_reducible rfl)
              try simp only [Act.put, List.setIfInBounds_toArray, List.set_cons_zero, List.set_cons_succ]
              refine takeO 16 (some 116) (v := ?v48) rfl rfl (by kernel_rfl) (by kernel_rfl) (by kernel_rfl) (Or.inl ⟨by rfl, ?y48⟩) hHeld ?r48
              case y48 => (intro w' hSw; (try dsimp only at hSw); go_simp; try with_reducible rfl)
              try simp only [Act.put, List.setIfInBounds_toArray, List.set_cons_zero, List.set_cons_succ]
              refine takeO 17 (some 117) (v := ?v49) rfl rfl (by kernel_rfl) (by kernel_rfl) (by kernel_rfl) (Or.inl ⟨by rfl, ?y49⟩) hHeld ?r49
              case y49 => (intro w' hSw; (try dsimp only at hSw); go_simp; try with_reducible rfl)
              try simp only [Act.put, List.setIfInBounds_toArray, List.set_cons_zero, List.set_cons_succ]
              refine takeO 18 (some 118) (v := ?v50) rfl rfl (by kernel_rfl) (by kernel_rfl) (by kernel_rfl) (Or.inl ⟨by rfl, ?y50⟩) hHeld ?r50
              case y50 => (intro w' hSw; (try dsimp only at hSw); go_simp; try with_reducible rfl)
              try simp only [Act.put, List.setIfInBounds_toArray, List.set_cons_zero, List.set_cons_succ]
              refine takeO 19 (some 119) (v := ?v51) rfl rfl (by kernel_rfl) (by kernel_rfl) (by kernel_rfl) (Or.inl ⟨by rfl, ?y51⟩) hHeld ?r51
              case y51 => (intro w' hSw; (try dsimp only at hSw); go_simp; try with_reducible rfl)
              try simp only [Act.put, List.setIfInBounds_toArray, List.set_cons_zero, List.set_cons_succ]
              refine takeO 20 (some 120) (v := ?v52) rfl rfl (by kernel_rfl) (by kernel_rfl) (by kernel_rfl) (Or.inl ⟨by rfl, ?y52⟩) hHeld ?r52
              case y52 => (intro w' hSw; (try dsimp only at hSw); go_simp; try with_reducible rfl)
              try simp only [Act.put, List.setIfInBounds_toArray, List.set_cons_zero, List.set_cons_succ]
              refine wpAnyH_ready (rs := [7]) (by kernel_rfl) (by simp) ?_
              refine AllReadyH.cons rfl (fun K hK => ?_) AllReadyH.nil
              go_simp
              refine (k1.out _ (below_drewN W3 1)).mono ?_
              rintro e V31 ⟨rfl, q31⟩
              dsimp only
              have HB31 : Below W3.heap.size W3 V31 := Below.trans (below_drewN W3 1) q31
              refine hK.out _ _ HB31 (fun hHeld => ?_)
              clear hK K q31
              refine wpAnyH_ready (rs := [14]) (by kernel_rfl) (by simp) ?_
              refine AllReadyH.cons rfl (fun K hK => ?_) AllReadyH.nil
              go_simp
              refine (k2.out _ HB31).mono ?_
              rintro e V32 ⟨rfl, q32⟩
              dsimp only
              have HB32 := btrans HB31 q32
              refine hK.out _ _ HB32 (fun hHeld => ?_)
              clear hK K q32 HB31
              refine wpAnyH_ready (rs := [21]) (by kernel_rfl) (by simp) ?_
              refine AllReadyH.cons rfl (fun K hK => ?_) AllReadyH.nil
              go_simp
              refine (k3.out _ HB32).mono ?_
              rintro e V33 ⟨rfl, q33⟩
              dsimp only
              have HB33 := btrans HB32 q33
              refine hK.out _ _ HB33 (fun hHeld => ?_)
              clear hK K q33 HB32
              refine wpAnyH_ready (rs := [22]) (by kernel_rfl) (by simp) ?_
              refine AllReadyH.cons rfl (fun K hK => ?_) AllReadyH.nil
              go_simp
              refine (k4.out _ HB33).mono ?_
              rintro e V34 ⟨rfl, q34⟩
              dsimp only
              have HB34 := btrans HB33 q34
              refine hK.out _ _ HB34 (fun hHeld => ?_)
              clear hK K q34 HB33
              refine takeO 23 (some 14) (v := ?v53) rfl rfl (by kernel_rfl) (by kernel_rfl) (by kernel_rfl) (Or.inl ⟨by rfl, ?y53⟩) hHeld ?r53
              case y53 => (intro w' hSw; (try dsimp only at hSw); go_simp; try with_reducible rfl)
              try simp only [Act.put, List.setIfInBounds_toArray, List.set_cons_zero, List.set_cons_succ]
              refine wpAnyH_done (by kernel_rfl) (Only.on ?_) _
              clear hHeld
              go_upto_region 19 with fail
              have hB5 := btrans hB4 HB34
              clear zm0 zm1 zm2 zm3 zm4 za0 za1 za2 zb0 zb1 zb2 zt0 zt1 zu0 zu1 HB34 hB4 hB3 k1 k2 k3 k4
              cases f2 with
              | true =>
                have hf : s = false := by
                  cases s with
                  | false => rfl
                  | true =>
                    have := (HSEE.out.1 rfl).2 i' (by first | exact hlt | (rw [HN.out]; exact hlt))
                    rw [HE.out, HE2.out] at this
                    dsimp only at this
                    rw [HN1.out, HN2.out, HN3.out] at this
                    exact absurd this (Mp.solid_t.1 HF2.out)
                subst hf
                go_wp2
                go_ret
                exact ⟨rfl, btrans HB.out hB5⟩
              | false =>
                have hT2 : Hid (∀ j, j + 1 < i' + 1 + 1 → (mpOf W D H mn mf).Free (if b1 < a1 then atI a1 b1 (nth qs (j + 1)).1 (nth qs (j + 1)).2 else atI a1 b1 (nth qs j).1 (nth qs j).2) (if b2 < a2 then atI a2 b2 (nth qs (j + 1)).1 (nth qs (j + 1)).2 else atI a2 b2 (nth qs j).1 (nth qs j).2) (if b3 < a3 then atI a3 b3 (nth qs (j + 1)).1 (nth qs (j + 1)).2 else atI a3 b3 (nth qs j).1 (nth qs j).2)) := hid (fun j hj => by
                  by_cases e : j = i'
                  · subst e
                    rw [HE.out, HE2.out]
                    dsimp only
                    rw [HN1.out, HN2.out, HN3.out]
                    exact Mp.solid_f.1 HF2.out
                  · exact hT.out j (by omega))
                go_wp2
                exact ⟨⟨i' + 1 + 1, by go_num, by omega, hF2, hT2, hB5⟩, by simp [intOf]; omega⟩
        · obtain rfl : i = n := by omega
          have hf : s = true := HSEE.out.2 ⟨hF.out, hT.out⟩
          subst hf
          go_wp2
          go_ret
          exact ⟨rfl, btrans HB.out hbr⟩
end Go.Proofs.Ytfcaekboonnmaaa
