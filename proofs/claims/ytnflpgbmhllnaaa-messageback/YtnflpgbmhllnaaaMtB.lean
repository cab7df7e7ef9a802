/- Layer 5 (message): what is read well has those bytes; the law MessageBack. -/
import Derived.Test.YtnflpgbmhllnaaaMtA
import Derived.Test.YtnflpgbmhllnaaaMsZ
namespace Go.Proofs.Ytnflpgbmhllnaaa
open Go.RowKit Go.Shelf
set_option linter.unusedVariables false
set_option linter.unusedSimpArgs false
attribute [local go_sem ↓] Go.wp_at_zero Go.wp_at_succ

theorem rest_noughts {l : List Bool} (h : restB l = true) : l = List.replicate l.length false ∧ l.length < 8 := by
  unfold restB at h
  simp only [Bool.and_eq_true, decide_eq_true_eq, List.all_eq_true, Bool.not_eq_true'] at h
  refine ⟨List.eq_replicate_iff.2 ⟨rfl, fun b hb => h.2 b hb⟩, h.1⟩
theorem dec_errs (bs : List Nat) : (decR bs).2.2 = 0 ∨ (decR bs).2.2 = 2 ∨ (decR bs).2.2 = 3 := by unfold decR; exact Pg.rd_errs _ _
/-- What is not read well tells nothing. -/
theorem dec_fail {bs : List Nat} (h : (decS bs).2 ≠ 0) : (decS bs).1 = [] ∧ ((decS bs).2 = 2 ∨ (decS bs).2 = 3) := by
  unfold decS at *
  split
  · rename_i h1
    refine ⟨rfl, ?_⟩
    rcases dec_errs bs with e | e | e
    · exact (h1 e).elim
    · exact .inl e
    · exact .inr e
  · split
    · rename_i h1 h2
      rw [if_neg h1, if_pos h2] at h
      exact (h rfl).elim
    · exact ⟨rfl, .inr rfl⟩
/-- What is read well has those bytes. -/
theorem dec_zero {bs : List Nat} {ms : List Msg} (hby : ∀ y ∈ bs, y < 256) (h : decS bs = (ms, 0)) : encE ms = 0 ∧ ∃ f, Packs bs f (encJ ms ms.length) := by
  unfold decS at h
  split at h
  · rename_i h1
    injection h with h2 h3
    exact (h1 h3).elim
  · rename_i h1
    split at h
    · rename_i h2
      injection h with h3 h4
      obtain ⟨a, t, e⟩ : ∃ a t, decR bs = (a, (t, 0)) := ⟨(decR bs).1, (decR bs).2.1, by
        have h5 : (decR bs).2.2 = 0 := Decidable.not_not.1 h1
        rw [← h5]⟩
      rw [e] at h2 h3
      simp only at h2 h3
      subst h3
      unfold decR at e
      obtain ⟨hl, hr, hu⟩ := all_read e
      have hall : a.all rgtB = true := List.all_eq_true.2 fun m hm => (rgtB_iff m).2 (hr m hm)
      rw [enc_all hl hall] at hu
      obtain ⟨hn, hn8⟩ := rest_noughts h2.1
      have hpk : Packs bs t.length (encJ a a.length) := ⟨by rw [hu, ← hn], hn8, hby⟩
      refine ⟨?_, t.length, hpk⟩
      unfold encE
      have := hpk.len
      rw [if_pos hall, if_pos hl, if_pos (by have := h2.2; omega)]
    · cases h
set_option maxRecDepth 100000 in
set_option maxHeartbeats 4000000 in
theorem messageBack_walk (p0 : Option Addr) (c0 : Nat) (l : List Msg) (q0 : Nat → Option Addr × Nat) (p1 : Option Addr) (n1 cap1 : Nat) (z1 : Nat → Int) (w : World) (h0 : ArgM w p0 c0 l q0) (h1 : Arg w p1 n1 cap1 fun i => .int .u8 (z1 i)) (hz : ∀ i, (Lit.int .u8 (z1 i)).wf = true) :
    Calls Try.prog 5 #[.slice p0 l.length c0, .slice p1 n1 cap1] w fun e w' => e = .returned (.bool true) ∧ Below w.heap.size w w' := by
  have hle := h1.le; have hmost := h1.most
  unfold maxLen at hmost
  obtain ⟨bs, hbl, hby, hab⟩ := h1.bytes hz (k := min n1 1300) (by omega)
  have hsh := shownF w
  have H0 := hid h0; have HAB := hid hab; have HBY := hid hby
  obtain ⟨M, hM⟩ : ∃ M, bs.length = M := ⟨_, rfl⟩
  have hcase : ((1300 : Int) < (n1 : Int) ∧ M = 1300) ∨ ((n1 : Int) ≤ 1300 ∧ n1 = M) := by omega
  have HM := hid hM
  clear h0 h1 hz hab hby hbl hM
  rcases hcase with ⟨k1, rfl⟩ | ⟨k1, rfl⟩
  ·
    go_enter Try.func5, Try.ntmps5
    go_wp2_with fail
    refine hsh.mono ?_
    rintro e u1 ⟨rfl, hb1⟩
    dsimp only
    have hF := fewF p0 c0 l q0 u1 (H0.out.keep hb1)
    have HB1 := hid hb1
    clear hsh hb1
    go_wp2_with fail
    refine hF.mono ?_
    rintro e u2 ⟨⟨p2, c2, rfl, hA2'⟩, hb2⟩
    dsimp only
    obtain ⟨q2, hA2⟩ : ∃ q2, ArgM u2 p2 c2 (fewM l) q2 := ⟨_, hA2'⟩
    have HB2 := hid (btrans HB1.out hb2)
    have HA2 := hid hA2
    have hEn := encodeF p2 c2 (fewM l) q2 u2 hA2
    clear hF hb2 HB1 hA2 hA2' H0
    generalize fewM l = fs at *
    go_wp2_with fail
    refine hEn.mono ?_
    rintro e u3 ⟨⟨v3, ys, rfl, hrow3, hp3, hz3⟩, hb3⟩
    dsimp only
    have HB3 := hid (btrans HB2.out hb3)
    have HA2b := hid (HA2.out.keep hb3)
    obtain ⟨p3, c3, rfl, ha3⟩ := hrow3.arg
    have hle3 := ha3.le; have hm3 := ha3.most
    unfold maxLen at hm3
    have HA3 := hid ha3
    have HP3 := hid hp3
    clear hEn hb3 HB2 HA2 hp3 hz3 hrow3 ha3
    by_cases hE : encE fs = 0
    · obtain ⟨f3, hpk3⟩ := HP3.out hE
      have h8 := (encE_zero hE).2.2
      have hlen3 := hpk3.len
      have hfew3 := hpk3.few
      have hy1024 : ¬ (1024 : Int) < (ys.length : Int) := by omega
      have hD3 := decodeF p3 c3 ys u3 HA3.out hpk3.byte (by omega)
      rw [dec_enc hE hpk3] at hD3
      rw [hE]
      clear hpk3 h8 hlen3 hfew3 HP3 hE HA3
      go_wp2_with fail
      refine hD3.mono ?_
      rintro e u4 ⟨⟨v4, q4, X4, rfl, hM4⟩, hb4⟩
      dsimp only
      obtain ⟨p4, c4, rfl, hA4⟩ := hM4.argM
      have HB4 := hid (btrans HB3.out hb4)
      have hS := sameRowF hA4 (HA2b.out.keep hb4)
      rw [decide_eq_true rfl] at hS
      have HA2c := HA2b
      clear hD3 hM4 hA4 hb4 HB3 HA2b
      go_wp2_with fail
      refine hS.mono ?_
      rintro e uA ⟨rfl, hb5⟩
      dsimp only
      have HBA := hid (btrans HB4.out hb5)
      clear hS hb5 HB4 HA2c
      have hD := decodeF p1 cap1 bs uA (HAB.out.keep HBA.out) HBY.out (by rw [HM.out]; omega)
      rw [HM.out] at hD
      go_wp2_with fail
      refine hD.mono ?_
      rintro e uB ⟨⟨vB, qB, XB, rfl, hMB⟩, hbB⟩
      dsimp only
      have HBB := hid (btrans HBA.out hbB)
      clear hD hbB
      by_cases hz0 : (decS bs).2 = 0
      · obtain ⟨ms, hms⟩ : ∃ ms, (decS bs).1 = ms := ⟨_, rfl⟩
        have hdec : decS bs = (ms, 0) := Prod.ext hms hz0
        obtain ⟨hE0, f0, hpk⟩ := dec_zero HBY.out hdec
        have h16 : (ms.length : Int) ≤ 16 := by have := (encE_zero hE0).2.1; omega
        rw [hms] at hMB
        obtain ⟨pB, cB, rfl, hABm⟩ := hMB.argM
        rw [hz0]
        have hEn := encodeF pB cB ms _ uB hABm
        have hleB := hABm.le
        rw [hE0] at hEn
        have HPK := hid hpk
        clear hMB hABm hdec hms hE0 hpk hz0
        go_wp2_with fail
        refine hEn.mono ?_
        rintro e uC ⟨⟨vC, ys, rfl, hrow, hp, _⟩, hbC⟩
        dsimp only
        obtain ⟨g, hp⟩ := hp rfl
        obtain rfl := hp.uniq HPK.out
        obtain ⟨pC, cC, rfl, haC⟩ := hrow.arg
        have cv1 := conv_arg haC
        have cv2 := conv_arg (HAB.out.keep (btrans HBB.out hbC))
        have HBC := hid (btrans HBB.out hbC)
        rw [HM.out] at cv1 cv2 ⊢
        generalize str ys = sy at *
        clear hEn hrow hp haC hbC HPK HAB HBY HM HBA HBB
        go_wp2_with fail
        go_ret
        exact ⟨rfl, HBC.out⟩
      · obtain ⟨hnil, herr⟩ := dec_fail hz0
        rw [hnil] at hMB
        obtain ⟨pB, cB, rfl, hABm⟩ := hMB.argM
        have hleB := hABm.le
        clear hMB hABm HAB HBY HM HBA hnil hz0
        simp only [List.length_nil] at hleB ⊢
        rcases herr with herr | herr
        · rw [herr]
          clear herr
          go_wp2_with fail
          go_ret
          exact ⟨rfl, HBB.out⟩
        · rw [herr]
          clear herr
          go_wp2_with fail
          go_ret
          exact ⟨rfl, HBB.out⟩
    · have hEb : (encE fs == 0) = false := by simp [hE]
      generalize encE fs = E at *
      clear HP3 HA3 HA2b hE
      have HBA := HB3
      have hD := decodeF p1 cap1 bs u3 (HAB.out.keep HBA.out) HBY.out (by rw [HM.out]; omega)
      rw [HM.out] at hD
      go_wp2_with fail
      refine hD.mono ?_
      rintro e uB ⟨⟨vB, qB, XB, rfl, hMB⟩, hbB⟩
      dsimp only
      have HBB := hid (btrans HBA.out hbB)
      clear hD hbB
      by_cases hz0 : (decS bs).2 = 0
      · obtain ⟨ms, hms⟩ : ∃ ms, (decS bs).1 = ms := ⟨_, rfl⟩
        have hdec : decS bs = (ms, 0) := Prod.ext hms hz0
        obtain ⟨hE0, f0, hpk⟩ := dec_zero HBY.out hdec
        have h16 : (ms.length : Int) ≤ 16 := by have := (encE_zero hE0).2.1; omega
        rw [hms] at hMB
        obtain ⟨pB, cB, rfl, hABm⟩ := hMB.argM
        rw [hz0]
        have hEn := encodeF pB cB ms _ uB hABm
        have hleB := hABm.le
        rw [hE0] at hEn
        have HPK := hid hpk
        clear hMB hABm hdec hms hE0 hpk hz0
        go_wp2_with fail
        refine hEn.mono ?_
        rintro e uC ⟨⟨vC, ys, rfl, hrow, hp, _⟩, hbC⟩
        dsimp only
        obtain ⟨g, hp⟩ := hp rfl
        obtain rfl := hp.uniq HPK.out
        obtain ⟨pC, cC, rfl, haC⟩ := hrow.arg
        have cv1 := conv_arg haC
        have cv2 := conv_arg (HAB.out.keep (btrans HBB.out hbC))
        have HBC := hid (btrans HBB.out hbC)
        rw [HM.out] at cv1 cv2 ⊢
        generalize str ys = sy at *
        clear hEn hrow hp haC hbC HPK HAB HBY HM HBA HBB
        go_wp2_with fail
        go_ret
        exact ⟨rfl, HBC.out⟩
      · obtain ⟨hnil, herr⟩ := dec_fail hz0
        rw [hnil] at hMB
        obtain ⟨pB, cB, rfl, hABm⟩ := hMB.argM
        have hleB := hABm.le
        clear hMB hABm HAB HBY HM HBA hnil hz0
        simp only [List.length_nil] at hleB ⊢
        rcases herr with herr | herr
        · rw [herr]
          clear herr
          go_wp2_with fail
          go_ret
          exact ⟨rfl, HBB.out⟩
        · rw [herr]
          clear herr
          go_wp2_with fail
          go_ret
          exact ⟨rfl, HBB.out⟩
  ·
    go_enter Try.func5, Try.ntmps5
    go_wp2_with fail
    refine hsh.mono ?_
    rintro e u1 ⟨rfl, hb1⟩
    dsimp only
    have hF := fewF p0 c0 l q0 u1 (H0.out.keep hb1)
    have HB1 := hid hb1
    clear hsh hb1
    go_wp2_with fail
    refine hF.mono ?_
    rintro e u2 ⟨⟨p2, c2, rfl, hA2'⟩, hb2⟩
    dsimp only
    obtain ⟨q2, hA2⟩ : ∃ q2, ArgM u2 p2 c2 (fewM l) q2 := ⟨_, hA2'⟩
    have HB2 := hid (btrans HB1.out hb2)
    have HA2 := hid hA2
    have hEn := encodeF p2 c2 (fewM l) q2 u2 hA2
    clear hF hb2 HB1 hA2 hA2' H0
    generalize fewM l = fs at *
    go_wp2_with fail
    refine hEn.mono ?_
    rintro e u3 ⟨⟨v3, ys, rfl, hrow3, hp3, hz3⟩, hb3⟩
    dsimp only
    have HB3 := hid (btrans HB2.out hb3)
    have HA2b := hid (HA2.out.keep hb3)
    obtain ⟨p3, c3, rfl, ha3⟩ := hrow3.arg
    have hle3 := ha3.le; have hm3 := ha3.most
    unfold maxLen at hm3
    have HA3 := hid ha3
    have HP3 := hid hp3
    clear hEn hb3 HB2 HA2 hp3 hz3 hrow3 ha3
    by_cases hE : encE fs = 0
    · obtain ⟨f3, hpk3⟩ := HP3.out hE
      have h8 := (encE_zero hE).2.2
      have hlen3 := hpk3.len
      have hfew3 := hpk3.few
      have hy1024 : ¬ (1024 : Int) < (ys.length : Int) := by omega
      have hD3 := decodeF p3 c3 ys u3 HA3.out hpk3.byte (by omega)
      rw [dec_enc hE hpk3] at hD3
      rw [hE]
      clear hpk3 h8 hlen3 hfew3 HP3 hE HA3
      go_wp2_with fail
      refine hD3.mono ?_
      rintro e u4 ⟨⟨v4, q4, X4, rfl, hM4⟩, hb4⟩
      dsimp only
      obtain ⟨p4, c4, rfl, hA4⟩ := hM4.argM
      have HB4 := hid (btrans HB3.out hb4)
      have hS := sameRowF hA4 (HA2b.out.keep hb4)
      rw [decide_eq_true rfl] at hS
      have HA2c := HA2b
      clear hD3 hM4 hA4 hb4 HB3 HA2b
      go_wp2_with fail
      refine hS.mono ?_
      rintro e uA ⟨rfl, hb5⟩
      dsimp only
      have HBA := hid (btrans HB4.out hb5)
      clear hS hb5 HB4 HA2c
      have hD := decodeF p1 cap1 bs uA (HAB.out.keep HBA.out) HBY.out (by rw [HM.out]; omega)
      rw [HM.out] at hD
      go_wp2_with fail
      refine hD.mono ?_
      rintro e uB ⟨⟨vB, qB, XB, rfl, hMB⟩, hbB⟩
      dsimp only
      have HBB := hid (btrans HBA.out hbB)
      clear hD hbB
      by_cases hz0 : (decS bs).2 = 0
      · obtain ⟨ms, hms⟩ : ∃ ms, (decS bs).1 = ms := ⟨_, rfl⟩
        have hdec : decS bs = (ms, 0) := Prod.ext hms hz0
        obtain ⟨hE0, f0, hpk⟩ := dec_zero HBY.out hdec
        have h16 : (ms.length : Int) ≤ 16 := by have := (encE_zero hE0).2.1; omega
        rw [hms] at hMB
        obtain ⟨pB, cB, rfl, hABm⟩ := hMB.argM
        rw [hz0]
        have hEn := encodeF pB cB ms _ uB hABm
        have hleB := hABm.le
        rw [hE0] at hEn
        have HPK := hid hpk
        clear hMB hABm hdec hms hE0 hpk hz0
        go_wp2_with fail
        refine hEn.mono ?_
        rintro e uC ⟨⟨vC, ys, rfl, hrow, hp, _⟩, hbC⟩
        dsimp only
        obtain ⟨g, hp⟩ := hp rfl
        obtain rfl := hp.uniq HPK.out
        obtain ⟨pC, cC, rfl, haC⟩ := hrow.arg
        have cv1 := conv_arg haC
        have cv2 := conv_arg (HAB.out.keep (btrans HBB.out hbC))
        have HBC := hid (btrans HBB.out hbC)
        rw [HM.out] at cv1 cv2 ⊢
        generalize str ys = sy at *
        clear hEn hrow hp haC hbC HPK HAB HBY HM HBA HBB
        go_wp2_with fail
        go_ret
        exact ⟨rfl, HBC.out⟩
      · obtain ⟨hnil, herr⟩ := dec_fail hz0
        rw [hnil] at hMB
        obtain ⟨pB, cB, rfl, hABm⟩ := hMB.argM
        have hleB := hABm.le
        clear hMB hABm HAB HBY HM HBA hnil hz0
        simp only [List.length_nil] at hleB ⊢
        rcases herr with herr | herr
        · rw [herr]
          clear herr
          go_wp2_with fail
          go_ret
          exact ⟨rfl, HBB.out⟩
        · rw [herr]
          clear herr
          go_wp2_with fail
          go_ret
          exact ⟨rfl, HBB.out⟩
    · have hEb : (encE fs == 0) = false := by simp [hE]
      generalize encE fs = E at *
      clear HP3 HA3 HA2b hE
      have HBA := HB3
      have hD := decodeF p1 cap1 bs u3 (HAB.out.keep HBA.out) HBY.out (by rw [HM.out]; omega)
      rw [HM.out] at hD
      go_wp2_with fail
      refine hD.mono ?_
      rintro e uB ⟨⟨vB, qB, XB, rfl, hMB⟩, hbB⟩
      dsimp only
      have HBB := hid (btrans HBA.out hbB)
      clear hD hbB
      by_cases hz0 : (decS bs).2 = 0
      · obtain ⟨ms, hms⟩ : ∃ ms, (decS bs).1 = ms := ⟨_, rfl⟩
        have hdec : decS bs = (ms, 0) := Prod.ext hms hz0
        obtain ⟨hE0, f0, hpk⟩ := dec_zero HBY.out hdec
        have h16 : (ms.length : Int) ≤ 16 := by have := (encE_zero hE0).2.1; omega
        rw [hms] at hMB
        obtain ⟨pB, cB, rfl, hABm⟩ := hMB.argM
        rw [hz0]
        have hEn := encodeF pB cB ms _ uB hABm
        have hleB := hABm.le
        rw [hE0] at hEn
        have HPK := hid hpk
        clear hMB hABm hdec hms hE0 hpk hz0
        go_wp2_with fail
        refine hEn.mono ?_
        rintro e uC ⟨⟨vC, ys, rfl, hrow, hp, _⟩, hbC⟩
        dsimp only
        obtain ⟨g, hp⟩ := hp rfl
        obtain rfl := hp.uniq HPK.out
        obtain ⟨pC, cC, rfl, haC⟩ := hrow.arg
        have cv1 := conv_arg haC
        have cv2 := conv_arg (HAB.out.keep (btrans HBB.out hbC))
        have HBC := hid (btrans HBB.out hbC)
        rw [HM.out] at cv1 cv2 ⊢
        generalize str ys = sy at *
        clear hEn hrow hp haC hbC HPK HAB HBY HM HBA HBB
        go_wp2_with fail
        go_ret
        exact ⟨rfl, HBC.out⟩
      · obtain ⟨hnil, herr⟩ := dec_fail hz0
        rw [hnil] at hMB
        obtain ⟨pB, cB, rfl, hABm⟩ := hMB.argM
        have hleB := hABm.le
        clear hMB hABm HAB HBY HM HBA hnil hz0
        simp only [List.length_nil] at hleB ⊢
        rcases herr with herr | herr
        · rw [herr]
          clear herr
          go_wp2_with fail
          go_ret
          exact ⟨rfl, HBB.out⟩
        · rw [herr]
          clear herr
          go_wp2_with fail
          go_ret
          exact ⟨rfl, HBB.out⟩
end Go.Proofs.Ytnflpgbmhllnaaa
