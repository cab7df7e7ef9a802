/- Layer 5 (message): the law MessageUnlike. -/
import Derived.Test.YtnflpgbmhllnaaaMtA
import Derived.Test.YtnflpgbmhllnaaaMsZ
namespace Go.Proofs.Ytnflpgbmhllnaaa
open Go.RowKit Go.Shelf
set_option linter.unusedVariables false
set_option linter.unusedSimpArgs false
attribute [local go_sem ↓] Go.wp_at_zero Go.wp_at_succ

/-- The same bytes just if the same messages. -/
theorem enc_iff {xs ys : List Msg} {ps qs : List Nat} {f g : Nat} (hx : encE xs = 0) (hy : encE ys = 0) (hp : Packs ps f (encJ xs xs.length)) (hq : Packs qs g (encJ ys ys.length)) : ps = qs ↔ xs = ys := by
  constructor
  · intro e
    have h1 := dec_enc hx hp
    have h2 := dec_enc hy hq
    rw [e, h2] at h1
    exact (congrArg Prod.fst h1).symm
  · intro e
    subst e
    exact hp.uniq hq
set_option maxRecDepth 100000 in
set_option maxHeartbeats 4000000 in
theorem messageUnlike_walk (p0 : Option Addr) (c0 : Nat) (l : List Msg) (q0 : Nat → Option Addr × Nat) (p1 : Option Addr) (c1 : Nat) (m : List Msg) (q1 : Nat → Option Addr × Nat) (w : World) (h0 : ArgM w p0 c0 l q0) (h1 : ArgM w p1 c1 m q1) :
    Calls Try.prog 8 #[.slice p0 l.length c0, .slice p1 m.length c1] w fun e w' => e = .returned (.bool true) ∧ Below w.heap.size w w' := by
  have hsh := shownF w
  have H0 := hid h0; have H1 := hid h1
  clear h0 h1
  go_enter Try.func8, Try.ntmps8
  go_wp2_with fail
  refine hsh.mono ?_
  rintro e u1 ⟨rfl, hb1⟩
  dsimp only
  have hF := fewF p0 c0 l q0 u1 (H0.out.keep hb1)
  have HB1 := hid hb1
  clear hsh hb1
  go_wp2_with fail
  refine hF.mono ?_
  rintro e u2 ⟨⟨p2, c2, rfl, hA2'⟩, hb2⟩
  dsimp only
  obtain ⟨q2, hA2⟩ : ∃ q2, ArgM u2 p2 c2 (fewM l) q2 := ⟨_, hA2'⟩
  have HB2 := hid (btrans HB1.out hb2)
  have HA2 := hid hA2
  have hG := fewF p1 c1 m q1 u2 (H1.out.keep HB2.out)
  clear hF hb2 HB1 hA2 hA2' H0 H1
  generalize fewM l = fs at *
  go_wp2_with fail
  refine hG.mono ?_
  rintro e u3 ⟨⟨p3, c3, rfl, hA3'⟩, hb3⟩
  dsimp only
  obtain ⟨q3, hA3⟩ : ∃ q3, ArgM u3 p3 c3 (fewM m) q3 := ⟨_, hA3'⟩
  have HB3 := hid (btrans HB2.out hb3)
  have HA2b := hid (HA2.out.keep hb3)
  have HA3 := hid hA3
  clear hG hb3 HB2 hA3 hA3' HA2
  generalize fewM m = gs at *
  have hEn := encodeF p2 c2 fs q2 u3 HA2b.out
  go_wp2_with fail
  refine hEn.mono ?_
  rintro e u4 ⟨⟨v4, ys, rfl, hrow4, hp4, hz4⟩, hb4⟩
  dsimp only
  have HB4 := hid (btrans HB3.out hb4)
  have HA2c := hid (HA2b.out.keep hb4)
  have HA3b := hid (HA3.out.keep hb4)
  have HP4 := hid hp4
  have HR4 := hid hrow4
  obtain ⟨p4, c4, rfl, ha4⟩ := hrow4.arg
  have HA4 := hid ha4
  have hEn2 := encodeF p3 c3 gs q3 u4 HA3b.out
  clear hEn hb4 HB3 HA2b HA3 hp4 hz4 hrow4 HR4 ha4
  go_wp2_with fail
  refine hEn2.mono ?_
  rintro e u5 ⟨⟨v5, zs, rfl, hrow5, hp5, hz5⟩, hb5⟩
  dsimp only
  have HB5 := hid (btrans HB4.out hb5)
  have HA2d := hid (HA2c.out.keep hb5)
  have HA3c := hid (HA3b.out.keep hb5)
  have HA4b := hid (HA4.out.keep hb5)
  have HP5 := hid hp5
  obtain ⟨p5, c5, rfl, ha5⟩ := hrow5.arg
  have HA5 := hid ha5
  have hle4 := ha5.le
  clear hEn2 hb5 HB4 HA2c HA3b hp5 hz5 hrow5 HA4 ha5 hle4
  by_cases hE : encE fs = 0
  · by_cases hF : encE gs = 0
    · obtain ⟨f, hpf⟩ := HP4.out hE
      obtain ⟨g, hpg⟩ := HP5.out hF
      have hkey := enc_iff hE hF hpf hpg
      obtain ⟨r, hr⟩ : ∃ r, decide (fs = gs) = r := ⟨_, rfl⟩
      have hbeq : ((str ys).toList == (str zs).toList) = r := by rw [str_beq hpf.byte hpg.byte, ← hr]; exact decide_eq_decide.2 hkey
      rw [hE, hF]
      have cv1 : ∀ w', Below u5.heap.size u5 w' → (convert 25 9 (.slice p4 ys.length c4)).run Try.prog w' = .ok (.string (str ys)) w' := fun w' hb => conv_arg (HA4b.out.keep hb)
      have cv2 : ∀ w', Below u5.heap.size u5 w' → (convert 25 9 (.slice p5 zs.length c5)).run Try.prog w' = .ok (.string (str zs)) w' := fun w' hb => conv_arg (HA5.out.keep hb)
      have hS : ∀ w', Below u5.heap.size u5 w' → _ := fun w' hb => sameRowF (HA2d.out.keep hb) (HA3c.out.keep hb)
      rw [hr] at hS
      have HS := hid hS
      generalize str ys = sy at *
      generalize str zs = sz at *
      clear hr hpf hpg hkey hS hE hF HP4 HP5 HA4b HA5 HA2d HA3c
      go_wp2_with fail
      refine region_held (fun u => Below u5.heap.size u5 u) 13 rfl (by kernel_rfl) (below_drewN u5 1) ?_
      intro hHeld
      refine takeO 0 (some 32) (v := ?v1) rfl rfl (by kernel_rfl) (by kernel_rfl) (by kernel_rfl) (Or.inl ⟨by rfl, ?y1⟩) hHeld ?r1
      case y1 => (intro w' hSw; (try dsimp only at hSw); go_simp; try with_reducible rfl)
      try simp only [Act.put, List.setIfInBounds_toArray, List.set_cons_zero, List.set_cons_succ]
      refine takeO 1 (some 33) (v := ?v2) rfl rfl (by kernel_rfl) (by kernel_rfl) (by kernel_rfl) (Or.inl ⟨by rfl, ?y2⟩) hHeld ?r2
      case y2 => (intro w' hSw; (try dsimp only at hSw); go_simp; try with_reducible rfl)
      try simp only [Act.put, List.setIfInBounds_toArray, List.set_cons_zero, List.set_cons_succ]
      refine takeO 2 (some 34) (v := ?v3) rfl rfl (by kernel_rfl) (by kernel_rfl) (by kernel_rfl) (Or.inl ⟨by rfl, ?y3⟩) hHeld ?r3
      case y3 => (intro w' hSw; (try dsimp only at hSw); go_simp; try with_reducible rfl)
      try simp only [Act.put, List.setIfInBounds_toArray, List.set_cons_zero, List.set_cons_succ]
      refine takeO 3 (some 35) (v := ?v4) rfl rfl (by kernel_rfl) (by kernel_rfl) (by kernel_rfl) (Or.inl ⟨by rfl, ?y4⟩) hHeld ?r4
      case y4 => (intro w' hSw; (try dsimp only at hSw); go_simp; try with_reducible rfl)
      try simp only [Act.put, List.setIfInBounds_toArray, List.set_cons_zero, List.set_cons_succ]
      refine takeO 4 (some 36) (v := ?v5) rfl rfl (by kernel_rfl) (by kernel_rfl) (by kernel_rfl) (Or.inl ⟨by rfl, ?y5⟩) hHeld ?r5
      case y5 => (intro w' hSw; (try dsimp only at hSw); go_simp; try with_reducible rfl)
      try simp only [Act.put, List.setIfInBounds_toArray, List.set_cons_zero, List.set_cons_succ]
      refine takeO 5 (some 37) (v := ?v6) rfl rfl (by kernel_rfl) (by kernel_rfl) (by kernel_rfl) (Or.inl ⟨by rfl, ?y6⟩) hHeld ?r6
      case y6 => (intro w' hSw; (try dsimp only at hSw); go_simp; try with_reducible rfl)
      try simp only [Act.put, List.setIfInBounds_toArray, List.set_cons_zero, List.set_cons_succ]
      refine takeO 6 (some 38) (v := ?v7) rfl rfl (by kernel_rfl) (by kernel_rfl) (by kernel_rfl) (Or.inl ⟨by rfl, ?y7⟩) hHeld ?r7
      case y7 => (intro w' hSw; (try dsimp only at hSw); go_simp; try with_reducible rfl)
      try simp only [Act.put, List.setIfInBounds_toArray, List.set_cons_zero, List.set_cons_succ]
      refine takeO 7 (some 39) (v := ?v8) rfl rfl (by kernel_rfl) (by kernel_rfl) (by kernel_rfl) (Or.inl ⟨by rfl, ?y8⟩) hHeld ?r8
      case y8 => (intro w' hSw; (try dsimp only at hSw); go_simp; try with_reducible rfl)
      try simp only [Act.put, List.setIfInBounds_toArray, List.set_cons_zero, List.set_cons_succ]
      refine takeO 8 (some 40) (v := ?v9) rfl rfl (by kernel_rfl) (by kernel_rfl) (by kernel_rfl) (Or.inl ⟨by rfl, ?y9⟩) hHeld ?r9
      case y9 => (intro w' hSw; (try dsimp only at hSw); go_simp; try with_reducible rfl)
      try simp only [Act.put, List.setIfInBounds_toArray, List.set_cons_zero, List.set_cons_succ]
      refine wpAnyH_ready (rs := [9]) (by kernel_rfl) (by simp) ?_
      refine AllReadyH.cons rfl (fun K hK => ?_) AllReadyH.nil
      go_simp
      refine (HS.out u5.drew (below_drewN u5 1)).mono ?_
      rintro e2 u6 ⟨rfl, hb6⟩
      dsimp only
      have hb7 : Below u5.heap.size u5 u6 := btrans (below_drewN u5 1) hb6
      have HB6 := hid (btrans HB5.out hb7)
      refine hK.out _ _ hb7 (fun hHeld => ?_)
      clear hK K hb6
      refine takeO 10 (some 42) (v := ?v10) rfl rfl (by kernel_rfl) (by kernel_rfl) (by kernel_rfl) (Or.inl ⟨by rfl, ?y10⟩) hHeld ?r10
      case y10 => (intro w' hSw; (try dsimp only at hSw); go_simp; try with_reducible rfl)
      try simp only [Act.put, List.setIfInBounds_toArray, List.set_cons_zero, List.set_cons_succ]
      refine takeO 11 (some 43) (v := ?v11) rfl rfl (by kernel_rfl) (by kernel_rfl) (by kernel_rfl) (Or.inl ⟨by rfl, ?y11⟩) hHeld ?r11
      case y11 => (intro w' hSw; (try dsimp only at hSw); go_simp; try with_reducible rfl)
      try simp only [Act.put, List.setIfInBounds_toArray, List.set_cons_zero, List.set_cons_succ]
      refine takeO 12 (some 4) (v := ?v12) rfl rfl (by kernel_rfl) (by kernel_rfl) (by kernel_rfl) (Or.inl ⟨by rfl, ?y12⟩) hHeld ?r12
      case y12 => (intro w' hSw; (try dsimp only at hSw); go_simp; try with_reducible rfl)
      try simp only [Act.put, List.setIfInBounds_toArray, List.set_cons_zero, List.set_cons_succ]
      refine wpAnyH_done (by kernel_rfl) (Only.on ?_) _
      clear hHeld HS hb7 cv1 cv2
      go_wp2_with fail
      go_ret
      exact ⟨rfl, HB6.out⟩
    · have hFb : (encE gs != 0) = true := by simp [hF]
      rw [hE]
      generalize encE gs = E at *
      clear HP4 HP5 HA4b HA5 HA2d HA3c hF hE
      go_wp2_with fail
      go_ret
      exact ⟨rfl, HB5.out⟩
  · have hEb : (encE fs != 0) = true := by simp [hE]
    generalize encE fs = E at *
    generalize encE gs = F at *
    clear HP4 HP5 HA4b HA5 HA2d HA3c hE
    go_wp2_with fail
    go_ret
    exact ⟨rfl, HB5.out⟩
end Go.Proofs.Ytnflpgbmhllnaaa
