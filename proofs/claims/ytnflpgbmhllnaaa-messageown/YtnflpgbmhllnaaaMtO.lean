/- Layer 5 (message): the law MessageOwn. -/
import Derived.Test.YtnflpgbmhllnaaaMtA
import Derived.Test.YtnflpgbmhllnaaaMsZ
namespace Go.Proofs.Ytnflpgbmhllnaaa
open Go.RowKit Go.Shelf
set_option linter.unusedVariables false
set_option linter.unusedSimpArgs false
attribute [local go_sem ↓] Go.wp_at_zero Go.wp_at_succ

/-- A row of messages that is written over: where its bytes lie stays. -/
structure XI (X : Nat → Prop) (v : Value) (n : Nat) (q : Nat → Value) (len : Nat → Nat) (w : World) : Prop where
  row : 0 < n → ∃ g cap cur, v = .slice (some ⟨g, 0, none⟩) n cap ∧ n ≤ cap ∧ cap ≤ maxLen ∧ X g ∧ w.heap[g]? = some (.cells cur 40 (0, 0)) ∧ n * 23 ≤ cur.size ∧ (∀ i, i < n → cur[i * 23 + 22]? = some (q i)) ∧ ∀ i, i < n → ∀ k, (q i).ownBlock = some k → k ≠ g
  bytes : ∀ i, i < n → ∃ p c, q i = .slice p (len i) c ∧ len i ≤ c ∧ c ≤ maxLen ∧ (0 < len i → ∃ gb cur, p = some ⟨gb, 0, none⟩ ∧ X gb ∧ w.heap[gb]? = some (.cells cur 5 (0, 0)) ∧ ∀ k, k < len i → ∃ z : Int, cur[k]? = some (.int .u8 z))
theorem MsAt.xi {w : World} {B : Nat} {X : Nat → Prop} {v : Value} {ms : List Msg} {q : Nat → Value} (h : MsAt w B X v ms q) : XI X v ms.length q (fun i => (mg ms i).bytes.length) w := by
  refine ⟨fun h0 => ?_, fun i hi => ?_⟩
  · rcases h.own.2 with ⟨_, hl⟩ | ⟨g, cap, cur, rfl, hb, hg, h1, h2, h3, h4⟩
    · omega
    · refine ⟨g, cap, cur, rfl, h1, h2, h.vX g rfl, hg, ?_, fun i hi => ?_, fun i hi k hk e => (h.rX i hi k hk).2 (by rw [e]; rfl)⟩
      · rw [h3]; exact Nat.mul_le_mul_right _ h1
      · have hm : (msCells ms q)[i * 23 + 22]? = some (q i) := fm_get ms.length _ (fun i => rfl) hi rfl
        rw [← h4, List.getElem?_take_of_lt (by omega)] at hm
        simpa using hm
  · rcases (h.rows i hi).own.2 with ⟨hv, hl⟩ | ⟨g, cap, cur, hv, hb, hg, h1, h2, h3, h4⟩
    · exact ⟨none, 0, by rw [hv, hl], by omega, by unfold maxLen; omega, fun e => by omega⟩
    · refine ⟨_, cap, hv, h1, h2, fun _ => ⟨g, cur, rfl, (h.rX i hi g (by rw [hv]; rfl)).1, hg, fun k hk => ?_⟩⟩
      have hm := u8s_get (mg ms i).bytes k (by rw [u8s_length]; exact hk)
      have h5 : (u8s (mg ms i).bytes)[k]? = some (.int .u8 (((mg ms i).bytes.getD k 0 : Nat) : Int)) := by rw [List.getElem?_eq_getElem (by rw [u8s_length]; exact hk), hm]
      rw [← h4, List.getElem?_take_of_lt (by omega)] at h5
      exact ⟨_, by simpa using h5⟩
theorem XI.drew {X : Nat → Prop} {v : Value} {n : Nat} {q : Nat → Value} {len : Nat → Nat} {w : World} (h : XI X v n q len w) : XI X v n q len w.drew := ⟨h.row, h.bytes⟩
theorem set_get {cur : Array Value} {i k : Nat} {u x : Value} (h : cur[k]? = some x) : (cur.setIfInBounds i u)[k]? = some x ∨ (k = i ∧ (cur.setIfInBounds i u)[k]? = some u) := by
  by_cases e : i = k
  · subst e
    right
    refine ⟨rfl, ?_⟩
    have := (Array.getElem?_eq_some_iff.1 h).1
    rw [Array.getElem?_setIfInBounds_self]; simp [this]
  · left; rw [Array.getElem?_setIfInBounds_ne e]; exact h
theorem XI.setByte {X : Nat → Prop} {v : Value} {n : Nat} {q : Nat → Value} {len : Nat → Nat} {w : World} (h : XI X v n q len w) {i gb c : Nat} (hi : i < n) (hq : q i = .slice (some ⟨gb, 0, none⟩) (len i) c) (k : Nat) (z : Int) : XI X v n q len (w.setCell ⟨gb, k, none⟩ (.int .u8 z)) := by
  refine ⟨fun h0 => ?_, fun i' hi' => ?_⟩
  · obtain ⟨g, cap, cur, rfl, h1, h2, h3, h4, h5, h6, h7⟩ := h.row h0
    have hne : gb ≠ g := h7 i hi gb (by rw [hq]; rfl)
    exact ⟨g, cap, cur, rfl, h1, h2, h3, by rw [Below.heap_setCell _ _ _ _ (fun e => hne e.symm)]; exact h4, h5, h6, h7⟩
  · obtain ⟨p, c', hq', hl, hm, hb⟩ := h.bytes i' hi'
    refine ⟨p, c', hq', hl, hm, fun h0 => ?_⟩
    obtain ⟨gb', cur, rfl, hX, hc, hz⟩ := hb h0
    by_cases e : gb' = gb
    · subst e
      refine ⟨gb', cur.setIfInBounds k (.int .u8 z), rfl, hX, heap_set_same hc _, fun k' hk' => ?_⟩
      obtain ⟨z', hz'⟩ := hz k' hk'
      rcases set_get (i := k) (u := .int .u8 z) hz' with h1 | ⟨_, h1⟩
      · exact ⟨z', h1⟩
      · exact ⟨z, h1⟩
    · exact ⟨gb', cur, rfl, hX, by rw [Below.heap_setCell _ _ _ _ e]; exact hc, hz⟩
theorem XI.setKind {X : Nat → Prop} {v : Value} {n : Nat} {q : Nat → Value} {len : Nat → Nat} {w : World} (h : XI X v n q len w) {g cap : Nat} (hv : v = .slice (some ⟨g, 0, none⟩) n cap) (i : Nat) (u : Value) : XI X v n q len (w.setCell ⟨g, i * 23, none⟩ u) := by
  refine ⟨fun h0 => ?_, fun i' hi' => ?_⟩
  · obtain ⟨g', cap', cur, hv', h1, h2, h3, h4, h5, h6, h7⟩ := h.row h0
    rw [hv] at hv'
    cases hv'
    refine ⟨g, cap, cur.setIfInBounds (i * 23) u, hv, h1, h2, h3, heap_set_same h4 u, by simpa using h5, fun i' hi' => ?_, h7⟩
    rcases set_get (i := i * 23) (u := u) (h6 i' hi') with e | ⟨e, _⟩
    · exact e
    · omega
  · obtain ⟨p, c', hq', hl, hm, hb⟩ := h.bytes i' hi'
    refine ⟨p, c', hq', hl, hm, fun h0 => ?_⟩
    obtain ⟨gb', cur, rfl, hX, hc, hz⟩ := hb h0
    obtain ⟨g', cap', cur', hv', h1, h2, h3, h4, h5, h6, h7⟩ := h.row (by omega)
    rw [hv] at hv'
    cases hv'
    have hne := h7 i' hi' gb' (by rw [hq']; rfl)
    exact ⟨gb', cur, rfl, hX, by rw [Below.heap_setCell _ _ _ _ hne]; exact hc, hz⟩
theorem cell_heap {w : World} {b k : Nat} {cur : Array Value} {T : TypeId} {u : Value} (h : w.heap[b]? = some (.cells cur T (0, 0))) (hk : cur[k]? = some u) : w.cell? ⟨b, k, none⟩ = some u := by
  rw [cell_of_row w b k cur T (0, 0) h]; exact hk
theorem thaw_heap {w : World} {b k : Nat} {cur : Array Value} {T : TypeId} (h : w.heap[b]? = some (.cells cur T (0, 0))) : w.frozen? ⟨b, k, none⟩ = false := by simp [World.frozen?, h]
set_option maxRecDepth 100000 in
set_option maxHeartbeats 4000000 in
theorem messageOwn_walk (p0 : Option Addr) (c0 : Nat) (l : List Msg) (q0 : Nat → Option Addr × Nat) (w : World) (h0 : ArgM w p0 c0 l q0) :
    Calls Try.prog 11 #[.slice p0 l.length c0] w fun e w' => e = .returned (.bool true) ∧ Below w.heap.size w w' := by
  have hsh := shownF w
  have H0 := hid h0
  clear h0
  go_enter Try.func11, Try.ntmps11
  go_wp2_with fail
  refine hsh.mono ?_
  rintro e u1 ⟨rfl, hb1⟩
  dsimp only
  have hF := fewF p0 c0 l q0 u1 (H0.out.keep hb1)
  have HB1 := hid hb1
  clear hsh hb1
  go_wp2_with fail
  refine hF.mono ?_
  rintro e u2 ⟨⟨p2, c2, rfl, hA2'⟩, hb2⟩
  dsimp only
  obtain ⟨q2, hA2⟩ : ∃ q2, ArgM u2 p2 c2 (fewM l) q2 := ⟨_, hA2'⟩
  have HB2 := hid (btrans HB1.out hb2)
  have HA2 := hid hA2
  have hEn := encodeF p2 c2 (fewM l) q2 u2 hA2
  clear hF hb2 HB1 hA2 hA2' H0
  generalize fewM l = fs at *
  go_wp2_with fail
  refine hEn.mono ?_
  rintro e u3 ⟨⟨v3, ys, rfl, hrow3, hp3, hz3⟩, hb3⟩
  dsimp only
  have HB3 := hid (btrans HB2.out hb3)
  have HA2b := hid (HA2.out.keep hb3)
  obtain ⟨p3, c3, rfl, ha3⟩ := hrow3.arg
  have hle3 := ha3.le; have hm3 := ha3.most
  unfold maxLen at hm3
  have HA3 := hid ha3
  have HP3 := hid hp3
  clear hEn hb3 HB2 HA2 hp3 hz3 hrow3 ha3
  by_cases hE : encE fs = 0
  rotate_left
  · have hEb : (encE fs != 0) = true := by simp [hE]
    generalize encE fs = E at *
    clear HP3 HA3 HA2b hE
    go_wp2_with fail
    go_ret
    exact ⟨rfl, HB3.out⟩
  obtain ⟨f3, hpk3⟩ := HP3.out hE
  have h8 := (encE_zero hE).2.2
  have hlen3 := hpk3.len
  have hfew3 := hpk3.few
  have hy1024 : ys.length ≤ 1024 := by omega
  have hfs16 : fs.length ≤ 16 := (encE_zero hE).2.1
  have hD3 := decodeF p3 c3 ys u3 HA3.out hpk3.byte (by omega)
  have hD4 := fun u (hu : Below u3.heap.size u3 u) => decodeF p3 c3 ys u (HA3.out.keep hu) hpk3.byte (by omega)
  have hdz := dec_enc hE hpk3
  rw [hdz] at hD3 hD4
  have HD4 := hid hD4
  have cv3 := conv_arg HA3.out
  rw [hE]
  obtain ⟨sy, hsy⟩ : ∃ sy, str ys = sy := ⟨_, rfl⟩
  rw [hsy] at cv3
  have HSY := hid hsy
  clear hpk3 h8 hlen3 hfew3 HP3 hE hD4 hdz hsy
  go_wp2_with fail
  refine hD3.mono ?_
  rintro e u4 ⟨⟨v4, q4, X4, rfl, hM4⟩, hb4⟩
  dsimp only
  have HB34 := hid hb4
  have hD4 := HD4.out u4 hb4
  have HM4 := hid hM4
  obtain ⟨p4, c4, rfl, hle4, hmx4⟩ := hM4.form
  clear hD3 hM4 hb4 cv3 HD4
  go_wp2_with fail
  refine hD4.mono ?_
  rintro e u5 ⟨⟨v5, q5, X5, rfl, hM5⟩, hb5⟩
  dsimp only
  have HB35 := hid (btrans HB34.out hb5)
  have HM4b := hid (HM4.out.below hb5)
  have HM5 := hid hM5
  have HXB := hid HM4.out.XB
  obtain ⟨p5, c5, rfl, hle5, hmx5⟩ := hM5.form
  have HXI := hid HM4b.out.xi
  unfold maxLen at hmx4 hmx5
  clear hD4 hM5 hb5 HM4
  obtain ⟨n, hn⟩ : ∃ n, fs.length = n := ⟨_, rfl⟩
  rw [hn] at HXI hle4 hle5 hfs16 ⊢
  have HN := hid hn
  clear hn
  generalize (fun i => (mg fs i).bytes.length) = len at *
  go_wp2_with fail
  go_loopw [11] (fun i wr => ∃ (j : Nat), i = .int .i64 (j : Int) ∧ j ≤ n ∧ XI X4 (.slice p4 n c4) n q4 len wr ∧ Fr X4 u5 wr) (fun i _ => n - (intOf i).toNat)
  case atStart => exact ⟨0, rfl, Nat.zero_le _, HXI.out, Fr.refl _ _⟩
  case round =>
    obtain ⟨j, rfl, hj, hxi, hfr⟩ := hrel
    by_cases hlt : j < n
    · have i1 : (j : Int) < (n : Int) := by omega
      obtain ⟨g, cap, cur, hv, hg1, hg2, hXg, hg, hg3, hg4, hg5⟩ := hxi.row (by omega)
      cases hv
      obtain ⟨pj, cj, hqj, hlj, hmj, hbj⟩ := hxi.bytes j hlt
      unfold maxLen at hmj
      have HX1 := hid hxi; have HFR := hid hfr
      have HQJ := hid hqj
      have hXg' := hid hXg
      obtain ⟨L, hL⟩ : ∃ L, len j = L := ⟨_, rfl⟩
      rw [hL] at hlj hqj
      have HL := hid hL
      clear hxi hfr hg hg3 hg4 hg5 cur hbj hL hXg hqj
      go_wp2_with fail
      go_loopw [12] (fun i wr => ∃ (k : Nat), i = .int .i64 (k : Int) ∧ k ≤ L ∧ XI X4 (.slice (some ⟨g, 0, none⟩) n c4) n q4 len wr ∧ Fr X4 u5 wr) (fun i _ => L - (intOf i).toNat)
      case atStart => exact ⟨0, rfl, Nat.zero_le _, HX1.out, HFR.out⟩
      case round =>
        obtain ⟨k, rfl, hk, hxi, hfr⟩ := hrel
        obtain ⟨g', cap', cur, hv, _, _, _, hg, hg3, hg4, hg5⟩ := hxi.row (by omega)
        cases hv
        have cB := cell_heap hg (hg4 j hlt)
        have hqj := HQJ.out
        rw [HL.out] at hqj
        rw [hqj] at cB
        by_cases hkl : k < L
        · obtain ⟨pj', cj', hqj', _, _, hbj⟩ := hxi.bytes j hlt
          obtain ⟨gb, cub, hpb, hXb, hgb, hzb⟩ := hbj (by rw [HL.out]; omega)
          rw [HQJ.out] at hqj'
          cases hqj'
          subst hpb
          obtain ⟨z, hz⟩ := hzb k (by rw [HL.out]; exact hkl)
          have cZ := cell_heap hgb hz
          have fZ := thaw_heap (k := k) hgb
          have hne : gb ≠ g := hg5 j hlt gb (by rw [hqj]; rfl)
          have hxi2 := fun z' => hxi.setByte hlt HQJ.out k z'
          have hfr2 := fun z' => hfr.setCell (p := ⟨gb, k, none⟩) hXb (.int .u8 z')
          have cB2 := fun z' => (cell_set_other (w := wr) (b := g) (o := j * 23 + 22) (g := gb) (j := k) (.int .u8 z') hne).trans cB
          have HX2 := hid hxi2; have HFR2 := hid hfr2; have CB2 := hid cB2
          have i2 : (k : Int) < (L : Int) := by omega
          clear hxi hfr hg hg3 hg4 hg5 hgb hzb hz cur cub hbj hxi2 hfr2 cB2 hqj HX1 HFR
          go_wp2_with fail
          refine region_held (fun u => u.cell? ⟨g, j * 23 + 22, none⟩ = some (.slice (some ⟨gb, 0, none⟩) L cj)) 17 rfl (by kernel_rfl) cB ?_
          intro hHeld
          refine takeO 0 (some 58) (v := ?v1) rfl rfl (by kernel_rfl) (by kernel_rfl) (by kernel_rfl) (Or.inl ⟨by rfl, ?y1⟩) hHeld ?r1
          case y1 => (intro w' hSw; (try dsimp only at hSw); go_simp; try with_reducible rfl)
          try simp only [Act.put, List.setIfInBounds_toArray, List.set_cons_zero, List.set_cons_succ]
          refine takeO 1 (some 59) (v := ?v2) rfl rfl (by kernel_rfl) (by kernel_rfl) (by kernel_rfl) (Or.inl ⟨by rfl, ?y2⟩) hHeld ?r2
          case y2 => (intro w' hSw; (try dsimp only at hSw); go_simp; try with_reducible rfl)
          try simp only [Act.put, List.setIfInBounds_toArray, List.set_cons_zero, List.set_cons_succ]
          refine takeO 2 (some 60) (v := ?v3) rfl rfl (by kernel_rfl) (by kernel_rfl) (by kernel_rfl) (Or.inl ⟨by rfl, ?y3⟩) hHeld ?r3
          case y3 => (intro w' hSw; (try dsimp only at hSw); go_simp; try with_reducible rfl)
          try simp only [Act.put, List.setIfInBounds_toArray, List.set_cons_zero, List.set_cons_succ]
          refine takeO 3 (some 61) (v := ?v4) rfl rfl (by kernel_rfl) (by kernel_rfl) (by kernel_rfl) (Or.inl ⟨by rfl, ?y4⟩) hHeld ?r4
          case y4 => (intro w' hSw; (try dsimp only at hSw); go_simp; try with_reducible rfl)
          try simp only [Act.put, List.setIfInBounds_toArray, List.set_cons_zero, List.set_cons_succ]
          refine takeO 4 (some 62) (v := ?v5) rfl rfl (by kernel_rfl) (by kernel_rfl) (by kernel_rfl) (Or.inl ⟨by rfl, ?y5⟩) hHeld ?r5
          case y5 => (intro w' hSw; (try dsimp only at hSw); go_simp; try with_reducible rfl)
          try simp only [Act.put, List.setIfInBounds_toArray, List.set_cons_zero, List.set_cons_succ]
          refine takeO 5 (some 63) (v := ?v6) rfl rfl (by kernel_rfl) (by kernel_rfl) (by kernel_rfl) (Or.inl ⟨by rfl, ?y6⟩) hHeld ?r6
          case y6 => (intro w' hSw; (try dsimp only at hSw); go_simp; try with_reducible rfl)
          try simp only [Act.put, List.setIfInBounds_toArray, List.set_cons_zero, List.set_cons_succ]
          refine takeO 6 (some 64) (v := ?v7) rfl rfl (by kernel_rfl) (by kernel_rfl) (by kernel_rfl) (Or.inl ⟨by rfl, ?y7⟩) hHeld ?r7
          case y7 => (intro w' hSw; (try dsimp only at hSw); go_simp; try with_reducible rfl)
          try simp only [Act.put, List.setIfInBounds_toArray, List.set_cons_zero, List.set_cons_succ]
          refine takeO 7 (some 65) (v := ?v8) rfl rfl (by kernel_rfl) (by kernel_rfl) (by kernel_rfl) (Or.inl ⟨by rfl, ?y8⟩) hHeld ?r8
          case y8 => (intro w' hSw; (try dsimp only at hSw); go_simp; try with_reducible rfl)
          try simp only [Act.put, List.setIfInBounds_toArray, List.set_cons_zero, List.set_cons_succ]
          refine takeO 8 (some 66) (v := ?v9) rfl rfl (by kernel_rfl) (by kernel_rfl) (by kernel_rfl) (Or.inl ⟨by rfl, ?y9⟩) hHeld ?r9
          case y9 => (intro w' hSw; (try dsimp only at hSw); go_simp; try with_reducible rfl)
          try simp only [Act.put, List.setIfInBounds_toArray, List.set_cons_zero, List.set_cons_succ]
          refine takeO 9 (some 67) (v := ?v10) rfl rfl (by kernel_rfl) (by kernel_rfl) (by kernel_rfl) (Or.inl ⟨by rfl, ?y10⟩) hHeld ?r10
          case y10 => (intro w' hSw; (try dsimp only at hSw); go_simp; try with_reducible rfl)
          try simp only [Act.put, List.setIfInBounds_toArray, List.set_cons_zero, List.set_cons_succ]
          refine takeO 10 (some 68) (v := ?v11) rfl rfl (by kernel_rfl) (by kernel_rfl) (by kernel_rfl) (Or.inl ⟨by rfl, ?y11⟩) hHeld ?r11
          case y11 => (intro w' hSw; (try dsimp only at hSw); go_simp; try with_reducible rfl)
          try simp only [Act.put, List.setIfInBounds_toArray, List.set_cons_zero, List.set_cons_succ]
          refine takeO 11 (some 69) (v := ?v12) rfl rfl (by kernel_rfl) (by kernel_rfl) (by kernel_rfl) (Or.inl ⟨by rfl, ?y12⟩) hHeld ?r12
          case y12 => (intro w' hSw; (try dsimp only at hSw); go_simp; try with_reducible rfl)
          try simp only [Act.put, List.setIfInBounds_toArray, List.set_cons_zero, List.set_cons_succ]
          refine takeO 12 (some 70) (v := ?v13) rfl rfl (by kernel_rfl) (by kernel_rfl) (by kernel_rfl) (Or.inl ⟨by rfl, ?y13⟩) hHeld ?r13
          case y13 => (intro w' hSw; (try dsimp only at hSw); go_simp; try with_reducible rfl)
          try simp only [Act.put, List.setIfInBounds_toArray, List.set_cons_zero, List.set_cons_succ]
          refine wpAnyH_ready (rs := [13]) (by kernel_rfl) (by simp) ?_
          refine AllReadyH.cons rfl (fun K hK => ?_) AllReadyH.nil
          go_simp
          refine hK.out _ _ cB (fun hHeld => ?_)
          clear hK K
          refine takeO 14 (some 72) (v := ?v14) rfl rfl (by kernel_rfl) (by kernel_rfl) (by kernel_rfl) (Or.inl ⟨by rfl, ?y14⟩) hHeld ?r14
          case y14 => (intro w' hSw; (try dsimp only at hSw); go_simp; try with_reducible rfl)
          try simp only [Act.put, List.setIfInBounds_toArray, List.set_cons_zero, List.set_cons_succ]
          refine takeO 15 (some 73) (v := ?v15) rfl rfl (by kernel_rfl) (by kernel_rfl) (by kernel_rfl) (Or.inl ⟨by rfl, ?y15⟩) hHeld ?r15
          case y15 => (intro w' hSw; (try dsimp only at hSw); go_simp; try with_reducible rfl)
          try simp only [Act.put, List.setIfInBounds_toArray, List.set_cons_zero, List.set_cons_succ]
          refine wpAnyH_ready (rs := [16]) (by kernel_rfl) (by simp) ?_
          refine AllReadyH.cons rfl (fun K hK => ?_) AllReadyH.nil
          go_simp
          refine hK.out _ _ (CB2.out _) (fun hHeld => ?_)
          clear hK K
          refine wpAnyH_done (by kernel_rfl) (Only.on ?_) _
          have hxi3 := HX2.out
          have hfr3 := HFR2.out
          go_wp2_with fail
          go_roundw
          case rel => exact ⟨k + 1, by go_num, by omega, (hxi3 _).drew, (hfr3 _).drew⟩
          case measure => simp [intOf]; omega
        · have i2 : ¬ (k : Int) < (L : Int) := by omega
          have c0' : ∃ u, wr.cell? ⟨g, j * 23, none⟩ = some u := by
            refine ⟨cur[j * 23]'(by omega), cell_heap hg ?_⟩
            rw [Array.getElem?_eq_getElem]
          obtain ⟨u0, c0'⟩ := c0'
          have f0 := thaw_heap (k := j * 23) hg
          have hxi2 := hxi.setKind rfl j (.int .i64 0)
          have hfr2 := hfr.setCell (p := ⟨g, j * 23, none⟩) hXg'.out (.int .i64 0)
          have HX2 := hid hxi2; have HFR2 := hid hfr2
          clear hxi hfr hg hg3 hg4 hg5 cur hxi2 hfr2 hqj HX1 HFR
          go_wp2_with fail
          go_roundw
          case rel => exact ⟨j + 1, by go_num, by omega, HX2.out, HFR2.out⟩
          case measure => simp [intOf]; omega
    · have hjn : j = n := by omega
      have i1 : ¬ (j : Int) < (n : Int) := by omega
      subst hjn
      have hb6 : Below u3.heap.size u3 wr := HB35.out.trans (hfr.below HB35.out.size (fun k hk => (HXB.out k hk).1))
      have hM5 := HM5.out.fr hfr (fun k hk e => by have := (HM5.out.XB k hk).1; have := (HXB.out k e).2; omega)
      obtain ⟨p5', c5', hv5, hA5⟩ := hM5.argM
      rw [HN.out] at hv5
      cases hv5
      have hS := sameRowF hA5 (HA2b.out.keep hb6)
      rw [decide_eq_true rfl, HN.out] at hS
      have cv6 := fun u (hu : Below wr.heap.size wr u) => conv_arg (HA3.out.keep (btrans hb6 hu))
      rw [HSY.out] at cv6
      have HB6 := hid (btrans HB3.out hb6)
      have CV6 := hid cv6
      clear hxi hfr hb6 hM5 hA5 cv6 HM5 HXB HXI HA2b HA3
      go_wp2_with fail
      refine hS.mono ?_
      rintro e u7 ⟨rfl, hb7⟩
      dsimp only
      have cv7 := CV6.out u7 hb7
      have HB7 := hid (btrans HB6.out hb7)
      clear hS hb7 CV6
      go_wp2_with fail
      go_ret
      exact ⟨rfl, HB7.out⟩
end Go.Proofs.Ytnflpgbmhllnaaa
