/- Layer 7 (mail): the walk of the law MailPlays. -/
import Derived.Test.YtllojhhplfdgkaaMlL
namespace Go.Proofs.Ytllojhhplfdgkaa
open Go.Conc Go.RowKit Go.Shelf
set_option linter.unusedVariables false
set_option linter.unusedSimpArgs false
attribute [local go_sem ↓] Go.wp_at_zero Go.wp_at_succ

theorem start2 {w0 w : World} (b1 : Below w0.heap.size w0 w) {m : Int} {R : Nat} (hR : room m = R) :
    Calls Try.prog 8 #[.int .i64 m] w fun e w1 => ∃ b c, e = .returned (.pointer (some ⟨b, 0, none⟩)) ∧
      Calls Try.prog 9 #[.int .i64 m] w1 fun e w3 => ∃ r, e = .returned (.pointer (some ⟨r, 0, none⟩)) ∧ TP NoZ w0 w3 b c r R [] 0 [] 0 := by
  have s1 := b1.size
  refine (newI_at m w).mono ?_
  rintro e w1 ⟨rfl, h1, b2⟩
  have s2 := b2.size
  have e1 := h1.lt
  rw [hR] at h1
  have bb1 := b1.trans (b2.mono s1)
  refine ⟨w.heap.size + 1, w.heap.size, rfl, ?_⟩
  refine (refNewAt m w1).mono ?_
  rintro e w3 ⟨rfl, h3, b4⟩
  rw [hR] at h3
  have h1' := MBox.below h1 b4
  refine ⟨_, rfl, ⟨⟨_, _, fun _ => False, h1', h3, fun _ e => e, ⟨fun k hk e => ?_⟩, ⟨fun k hk e => e⟩, ⟨fun k hk e => e⟩, ⟨fun k hk => ?_⟩, ⟨fun k hk => ?_⟩, ⟨fun k hk => hk.elim⟩⟩, bb1.trans (b4.mono (by omega))⟩⟩
  · have := e1 k hk; omega
  · omega
  · omega
theorem TP.noRow {Z : World → (Nat → Prop) → Prop} {w0 w : World} {b c r cap l m : Nat} {xs ys : List Int} (h : TP Z w0 w b c r cap xs l ys m) : TP NoZ w0 w b c r cap xs l ys m := by
  obtain ⟨S, S2, S3, h1, h2, h3, d1, d2, d3, f1, f2, f3⟩ := h.own
  exact ⟨⟨S, S2, fun _ => False, h1, h2, fun _ e => e, d1, ⟨fun _ _ e => e⟩, ⟨fun _ _ e => e⟩, f1, f2, ⟨fun _ e => e.elim⟩⟩, h.below⟩
set_option maxRecDepth 100000 in
set_option maxHeartbeats 8000000 in
theorem mailPlays_walk (m : Int) (p : Option Addr) (n cap : Nat) (K N : Nat → Int) (w : World) (hm : (Lit.int .i64 m).wf = true) (h : ArgO w p n cap K N) :
    Calls Try.prog 3 #[.int .i64 m, .slice p n cap] w fun e w' => e = .returned (.bool true) ∧ Below w.heap.size w w' := by
  have hle := h.le; have hmost := h.most
  unfold maxLen at hmost
  obtain ⟨R, hR⟩ : ∃ R, room m = R := ⟨_, rfl⟩
  have hR1 := room_pos m
  rw [hR] at hR1
  have HA := hid h
  have hsh := shown7 w
  clear h hm
  go_enter Try.func3, Try.ntmps3
  go_wp2_with fail
  refine hsh.mono ?_; rintro e w1 ⟨rfl, b1⟩
  have hn := start2 b1 hR
  clear hsh b1
  go_wp2_with fail
  refine hn.mono ?_; rintro e w2 ⟨b, c, rfl, hn2⟩
  clear hn
  go_wp2_with fail
  refine hn2.mono ?_; rintro e w4 ⟨r, rfl, hT⟩
  have HT := hid hT
  clear hn2 hT
  go_wp2_with fail
  go_loopw [8] (fun i wr => ∃ (k l : Nat) (xs : List Int), i = .int .i64 (k : Int) ∧ k ≤ n ∧ k ≤ 300 ∧ xs.length ≤ k ∧ l ≤ k ∧ TP NoZ w wr b c r R xs l xs l) (fun i _ => 300 - (intOf i).toNat)
  case atStart => exact ⟨0, 0, [], rfl, Nat.zero_le _, Nat.zero_le _, Nat.zero_le _, Nat.zero_le _, HT.out⟩
  case round =>
    obtain ⟨k, l, xs, rfl, hkn, hk1, hxl, hlk, hT⟩ := hrel
    clear HT
    by_cases hlt : k < n ∧ k < 300
    · have i1 : (k : Int) < (n : Int) := by omega
      have i2 : (k : Int) < 300 := by omega
      obtain ⟨g1, o1, rfl, hg1, hc1⟩ := (HA.out.keep hT.below).at hlt.1
      obtain ⟨c1, c2⟩ := hc1 k hlt.1
      obtain ⟨q, hq⟩ : ∃ q, K k = q := ⟨_, rfl⟩
      rw [hq] at c1
      clear hc1 hq
      have hcase : q = 0 ∨ q = 1 ∨ q = 2 ∨ q = 3 ∨ q = 4 ∨ q = 5 ∨ ((q == 0) = false ∧ (q == 1) = false ∧ (q == 2) = false ∧ (q == 3) = false ∧ (q == 4) = false ∧ (q == 5) = false) := by
        simp only [beq_eq_false_iff_ne]; omega
      rcases hcase with rfl | rfl | rfl | rfl | rfl | rfl | ⟨j0, j1, j2, j3, j4, j5⟩
      ·
        have hcN : ∀ u, Below w.heap.size w u → u.cell? ⟨g1, o1 + k * 2 + 1, none⟩ = some (.int .i64 (N k)) := fun u hu => by
          obtain ⟨g2, o2, he, _, hc⟩ := (HA.out.keep hu).at hlt.1
          cases he
          exact (hc k hlt.1).2
        have hTd := hT.drew noZ
        have HB := hid hTd.below
        have hpu := hTd.put noZ (N k) (by omega)
        clear hT hTd
        go_wp2_with fail
        refine region_held (fun u => Below w.heap.size w u) 16 rfl (by kernel_rfl) HB.out ?_
        intro hHeld
        refine takeO 0 (some 40) (v := ?v1) rfl rfl (by kernel_rfl) (by kernel_rfl) (by kernel_rfl) (Or.inl ⟨by rfl, ?y1⟩) hHeld ?r1
        case y1 => (intro w' hSw; (try dsimp only at hSw); go_simp; try with_reducible rfl)
        try simp only [Act.put, List.setIfInBounds_toArray, List.set_cons_zero, List.set_cons_succ]
        refine takeO 1 (some 41) (v := ?v2) rfl rfl (by kernel_rfl) (by kernel_rfl) (by kernel_rfl) (Or.inl ⟨by rfl, ?y2⟩) hHeld ?r2
        case y2 => (intro w' hSw; (try dsimp only at hSw); go_simp; try with_reducible rfl)
        try simp only [Act.put, List.setIfInBounds_toArray, List.set_cons_zero, List.set_cons_succ]
        refine takeO 2 (some 42) (v := ?v3) rfl rfl (by kernel_rfl) (by kernel_rfl) (by kernel_rfl) (Or.inl ⟨by rfl, ?y3⟩) hHeld ?r3
        case y3 => (intro w' hSw; (try dsimp only at hSw); go_simp; try with_reducible rfl)
        try simp only [Act.put, List.setIfInBounds_toArray, List.set_cons_zero, List.set_cons_succ]
        refine takeO 3 (some 43) (v := ?v4) rfl rfl (by kernel_rfl) (by kernel_rfl) (by kernel_rfl) (Or.inl ⟨by rfl, ?y4⟩) hHeld ?r4
        case y4 => (intro w' hSw; (try dsimp only at hSw); go_simp; try with_reducible rfl)
        try simp only [Act.put, List.setIfInBounds_toArray, List.set_cons_zero, List.set_cons_succ]
        refine takeO 4 (some 44) (v := ?v5) rfl rfl (by kernel_rfl) (by kernel_rfl) (by kernel_rfl) (Or.inl ⟨by rfl, ?y5⟩) hHeld ?r5
        case y5 => (intro w' hSw; (try dsimp only at hSw); go_simp; try with_reducible rfl)
        try simp only [Act.put, List.setIfInBounds_toArray, List.set_cons_zero, List.set_cons_succ]
        refine takeO 5 (some 45) (v := ?v6) rfl rfl (by kernel_rfl) (by kernel_rfl) (by kernel_rfl) (Or.inl ⟨by rfl, ?y6⟩) hHeld ?r6
        case y6 => (intro w' hSw; (try dsimp only at hSw); go_simp; try with_reducible rfl)
        try simp only [Act.put, List.setIfInBounds_toArray, List.set_cons_zero, List.set_cons_succ]
        refine takeO 7 (some 47) (v := ?v7) rfl rfl (by kernel_rfl) (by kernel_rfl) (by kernel_rfl) (Or.inl ⟨by rfl, ?y7⟩) hHeld ?r7
        case y7 => (intro w' hSw; (try dsimp only at hSw); go_simp; try with_reducible rfl)
        try simp only [Act.put, List.setIfInBounds_toArray, List.set_cons_zero, List.set_cons_succ]
        refine takeO 8 (some 48) (v := ?v8) rfl rfl (by kernel_rfl) (by kernel_rfl) (by kernel_rfl) (Or.inl ⟨by rfl, ?y8⟩) hHeld ?r8
        case y8 => (intro w' hSw; (try dsimp only at hSw); go_simp; try with_reducible rfl)
        try simp only [Act.put, List.setIfInBounds_toArray, List.set_cons_zero, List.set_cons_succ]
        refine takeO 9 (some 49) (v := ?v9) rfl rfl (by kernel_rfl) (by kernel_rfl) (by kernel_rfl) (Or.inl ⟨by rfl, ?y9⟩) hHeld ?r9
        case y9 => (intro w' hSw; (try dsimp only at hSw); go_simp; try with_reducible rfl)
        try simp only [Act.put, List.setIfInBounds_toArray, List.set_cons_zero, List.set_cons_succ]
        refine takeO 10 (some 50) (v := ?v10) rfl rfl (by kernel_rfl) (by kernel_rfl) (by kernel_rfl) (Or.inl ⟨by rfl, ?y10⟩) hHeld ?r10
        case y10 => (intro w' hSw; (try dsimp only at hSw); go_simp; try with_reducible rfl)
        try simp only [Act.put, List.setIfInBounds_toArray, List.set_cons_zero, List.set_cons_succ]
        refine takeO 11 (some 51) (v := ?v11) rfl rfl (by kernel_rfl) (by kernel_rfl) (by kernel_rfl) (Or.inl ⟨by rfl, ?y11⟩) hHeld ?r11
        case y11 => (intro w' hSw; (try dsimp only at hSw); go_simp; try with_reducible rfl)
        try simp only [Act.put, List.setIfInBounds_toArray, List.set_cons_zero, List.set_cons_succ]
        refine takeO 12 (some 52) (v := ?v12) rfl rfl (by kernel_rfl) (by kernel_rfl) (by kernel_rfl) (Or.inl ⟨by rfl, ?y12⟩) hHeld ?r12
        case y12 => (intro w' hSw; (try dsimp only at hSw); go_simp; try with_reducible rfl)
        try simp only [Act.put, List.setIfInBounds_toArray, List.set_cons_zero, List.set_cons_succ]
        refine wpAnyH_ready (rs := [6]) (by kernel_rfl) (by simp) ?_
        refine AllReadyH.cons rfl (fun K hK => ?_) AllReadyH.nil
        go_simp
        refine hpu.mono ?_
        rintro e u1 ⟨rfl, hT⟩
        dsimp only
        have hrp := hT.refPut noZ (N k) (by omega) (by omega)
        refine hK.out _ _ hT.below (fun hHeld => ?_)
        clear hK K hpu hT HB
        refine wpAnyH_ready (rs := [13]) (by kernel_rfl) (by simp) ?_
        refine AllReadyH.cons rfl (fun K hK => ?_) AllReadyH.nil
        go_simp
        refine hrp.mono ?_
        rintro e u2 ⟨rfl, hT⟩
        dsimp only
        obtain ⟨xs', hxs⟩ : ∃ xs', (if xs.length < R then xs ++ [N k] else xs) = xs' := ⟨_, rfl⟩
        obtain ⟨l', hl'⟩ : ∃ l', (if xs.length < R then l else l + 1) = l' := ⟨_, rfl⟩
        have hxn : xs'.length ≤ k + 1 := by rw [← hxs]; split <;> (try rw [List.length_append, List.length_singleton]) <;> omega
        have hln : l' ≤ k + 1 := by rw [← hl']; split <;> omega
        rw [hxs, hl'] at hT
        have HT := hid hT
        refine hK.out _ _ hT.below (fun hHeld => ?_)
        clear hK K hrp hT hxs hl'
        refine takeO 14 (some 54) (v := ?v13) rfl rfl (by kernel_rfl) (by kernel_rfl) (by kernel_rfl) (Or.inl ⟨by rfl, ?y13⟩) hHeld ?r13
        case y13 => (intro w' hSw; (try dsimp only at hSw); go_simp; try with_reducible rfl)
        try simp only [Act.put, List.setIfInBounds_toArray, List.set_cons_zero, List.set_cons_succ]
        refine takeO 15 (some 9) (v := ?v14) rfl rfl (by kernel_rfl) (by kernel_rfl) (by kernel_rfl) (Or.inl ⟨by rfl, ?y14⟩) hHeld ?r14
        case y14 => (intro w' hSw; (try dsimp only at hSw); go_simp; try with_reducible rfl)
        try simp only [Act.put, List.setIfInBounds_toArray, List.set_cons_zero, List.set_cons_succ]
        refine wpAnyH_done (by kernel_rfl) (Only.on ?_) _
        clear hHeld hcN
        have hTd := HT.out.drew noZ
        obtain ⟨⟨pL, qL, hc1, _⟩, hc2, _⟩ := hTd.cells
        have hle := hTd.len
        have hlo := hTd.lost
        have HTd := hid hTd
        obtain ⟨xl, hxl'⟩ : ∃ xl, xs'.length = xl := ⟨_, rfl⟩
        rw [hxl'] at hc1 hle
        have HXL := hid hxl'
        clear HT hTd hxl'
        go_wp2_with fail
        refine region_held (fun u => u.cell? ⟨r, 1, none⟩ = some (.slice pL xl qL) ∧ u.cell? ⟨r, 2, none⟩ = some (.int .i64 (l' : Nat))) 21 rfl (by kernel_rfl) ⟨hc1, hc2⟩ ?_
        intro hHeld
        refine takeO 0 (some 83) (v := ?v15) rfl rfl (by kernel_rfl) (by kernel_rfl) (by kernel_rfl) (Or.inl ⟨by rfl, ?y15⟩) hHeld ?r15
        case y15 => (intro w' hSw; (try dsimp only at hSw); go_simp; try with_reducible rfl)
        try simp only [Act.put, List.setIfInBounds_toArray, List.set_cons_zero, List.set_cons_succ]
        refine takeO 1 (some 84) (v := ?v16) rfl rfl (by kernel_rfl) (by kernel_rfl) (by kernel_rfl) (Or.inl ⟨by rfl, ?y16⟩) hHeld ?r16
        case y16 => (intro w' hSw; (try dsimp only at hSw); go_simp; try with_reducible rfl)
        try simp only [Act.put, List.setIfInBounds_toArray, List.set_cons_zero, List.set_cons_succ]
        refine takeO 2 (some 85) (v := ?v17) rfl rfl (by kernel_rfl) (by kernel_rfl) (by kernel_rfl) (Or.inl ⟨by rfl, ?y17⟩) hHeld ?r17
        case y17 => (intro w' hSw; (try dsimp only at hSw); go_simp; try with_reducible rfl)
        try simp only [Act.put, List.setIfInBounds_toArray, List.set_cons_zero, List.set_cons_succ]
        refine takeO 3 (some 86) (v := ?v18) rfl rfl (by kernel_rfl) (by kernel_rfl) (by kernel_rfl) (Or.inl ⟨by rfl, ?y18⟩) hHeld ?r18
        case y18 => (intro w' hSw; (try dsimp only at hSw); go_simp; try with_reducible rfl)
        try simp only [Act.put, List.setIfInBounds_toArray, List.set_cons_zero, List.set_cons_succ]
        refine takeO 5 (some 88) (v := ?v19) rfl rfl (by kernel_rfl) (by kernel_rfl) (by kernel_rfl) (Or.inl ⟨by rfl, ?y19⟩) hHeld ?r19
        case y19 => (intro w' hSw; (try dsimp only at hSw); go_simp; try with_reducible rfl)
        try simp only [Act.put, List.setIfInBounds_toArray, List.set_cons_zero, List.set_cons_succ]
        refine takeO 6 (some 89) (v := ?v20) rfl rfl (by kernel_rfl) (by kernel_rfl) (by kernel_rfl) (Or.inl ⟨by rfl, ?y20⟩) hHeld ?r20
        case y20 => (intro w' hSw; (try dsimp only at hSw); go_simp; try with_reducible rfl)
        try simp only [Act.put, List.setIfInBounds_toArray, List.set_cons_zero, List.set_cons_succ]
        refine takeO 7 (some 90) (v := ?v21) rfl rfl (by kernel_rfl) (by kernel_rfl) (by kernel_rfl) (Or.inl ⟨by rfl, ?y21⟩) hHeld ?r21
        case y21 => (intro w' hSw; (try dsimp only at hSw); go_simp; try with_reducible rfl)
        try simp only [Act.put, List.setIfInBounds_toArray, List.set_cons_zero, List.set_cons_succ]
        refine takeO 8 (some 91) (v := ?v22) rfl rfl (by kernel_rfl) (by kernel_rfl) (by kernel_rfl) (Or.inl ⟨by rfl, ?y22⟩) hHeld ?r22
        case y22 => (intro w' hSw; (try dsimp only at hSw); go_simp; try with_reducible rfl)
        try simp only [Act.put, List.setIfInBounds_toArray, List.set_cons_zero, List.set_cons_succ]
        refine takeO 9 (some 92) (v := ?v23) rfl rfl (by kernel_rfl) (by kernel_rfl) (by kernel_rfl) (Or.inl ⟨by rfl, ?y23⟩) hHeld ?r23
        case y23 => (intro w' hSw; (try dsimp only at hSw); go_simp; try with_reducible rfl)
        try simp only [Act.put, List.setIfInBounds_toArray, List.set_cons_zero, List.set_cons_succ]
        refine wpAnyH_ready (rs := [4]) (by kernel_rfl) (by simp) ?_
        refine AllReadyH.cons rfl (fun K hK => ?_) AllReadyH.nil
        go_simp
        refine hle.mono ?_
        rintro e u1 ⟨rfl, hw⟩
        rw [hw]
        clear hw u1
        dsimp only
        refine hK.out _ _ ⟨hc1, hc2⟩ (fun hHeld => ?_)
        clear hK K hle
        refine takeO 10 (some 93) (v := ?v24) rfl rfl (by kernel_rfl) (by kernel_rfl) (by kernel_rfl) (Or.inl ⟨by rfl, ?y24⟩) hHeld ?r24
        case y24 => (intro w' hSw; (try dsimp only at hSw); go_simp; try with_reducible rfl)
        try simp only [Act.put, List.setIfInBounds_toArray, List.set_cons_zero, List.set_cons_succ]
        refine takeO 11 (some 94) (v := ?v25) rfl rfl (by kernel_rfl) (by kernel_rfl) (by kernel_rfl) (Or.inl ⟨by rfl, ?y25⟩) hHeld ?r25
        case y25 => (intro w' hSw; (try dsimp only at hSw); go_simp; try with_reducible rfl)
        try simp only [Act.put, List.setIfInBounds_toArray, List.set_cons_zero, List.set_cons_succ]
        refine takeO 12 (some 95) (v := ?v26) rfl rfl (by kernel_rfl) (by kernel_rfl) (by kernel_rfl) (Or.inl ⟨by rfl, ?y26⟩) hHeld ?r26
        case y26 => (intro w' hSw; (try dsimp only at hSw); go_simp; try with_reducible rfl)
        try simp only [Act.put, List.setIfInBounds_toArray, List.set_cons_zero, List.set_cons_succ]
        refine takeO 13 (some 96) (v := ?v27) rfl rfl (by kernel_rfl) (by kernel_rfl) (by kernel_rfl) (Or.inl ⟨by rfl, ?y27⟩) hHeld ?r27
        case y27 => (intro w' hSw; (try dsimp only at hSw); go_simp; try with_reducible rfl)
        try simp only [Act.put, List.setIfInBounds_toArray, List.set_cons_zero, List.set_cons_succ]
        refine takeO 15 (some 98) (v := ?v28) rfl rfl (by kernel_rfl) (by kernel_rfl) (by kernel_rfl) (Or.inl ⟨by rfl, ?y28⟩) hHeld ?r28
        case y28 => (intro w' hSw; (try dsimp only at hSw); go_simp; try with_reducible rfl)
        try simp only [Act.put, List.setIfInBounds_toArray, List.set_cons_zero, List.set_cons_succ]
        refine takeO 16 (some 99) (v := ?v29) rfl rfl (by kernel_rfl) (by kernel_rfl) (by kernel_rfl) (Or.inl ⟨by rfl, ?y29⟩) hHeld ?r29
        case y29 => (intro w' hSw; (try dsimp only at hSw); go_simp; try with_reducible rfl)
        try simp only [Act.put, List.setIfInBounds_toArray, List.set_cons_zero, List.set_cons_succ]
        refine takeO 17 (some 100) (v := ?v30) rfl rfl (by kernel_rfl) (by kernel_rfl) (by kernel_rfl) (Or.inl ⟨by rfl, ?y30⟩) hHeld ?r30
        case y30 => (intro w' hSw; (try dsimp only at hSw); go_simp; try with_reducible rfl)
        try simp only [Act.put, List.setIfInBounds_toArray, List.set_cons_zero, List.set_cons_succ]
        refine takeO 18 (some 101) (v := ?v31) rfl rfl (by kernel_rfl) (by kernel_rfl) (by kernel_rfl) (Or.inl ⟨by rfl, ?y31⟩) hHeld ?r31
        case y31 => (intro w' hSw; (try dsimp only at hSw); go_simp; try with_reducible rfl)
        try simp only [Act.put, List.setIfInBounds_toArray, List.set_cons_zero, List.set_cons_succ]
        refine wpAnyH_ready (rs := [14]) (by kernel_rfl) (by simp) ?_
        refine AllReadyH.cons rfl (fun K hK => ?_) AllReadyH.nil
        go_simp
        refine hlo.mono ?_
        rintro e u1 ⟨rfl, hw⟩
        rw [hw]
        clear hw u1
        dsimp only
        refine hK.out _ _ ⟨hc1, hc2⟩ (fun hHeld => ?_)
        clear hK K hlo
        refine takeO 19 (some 102) (v := ?v32) rfl rfl (by kernel_rfl) (by kernel_rfl) (by kernel_rfl) (Or.inl ⟨by rfl, ?y32⟩) hHeld ?r32
        case y32 => (intro w' hSw; (try dsimp only at hSw); go_simp; try with_reducible rfl)
        try simp only [Act.put, List.setIfInBounds_toArray, List.set_cons_zero, List.set_cons_succ]
        refine takeO 20 (some 103) (v := ?v33) rfl rfl (by kernel_rfl) (by kernel_rfl) (by kernel_rfl) (Or.inl ⟨by rfl, ?y33⟩) hHeld ?r33
        case y33 => (intro w' hSw; (try dsimp only at hSw); go_simp; try with_reducible rfl)
        try simp only [Act.put, List.setIfInBounds_toArray, List.set_cons_zero, List.set_cons_succ]
        refine wpAnyH_done (by kernel_rfl) (Only.on ?_) _
        clear hHeld hc1 hc2
        go_wp2_with fail
        go_roundw
        case rel => exact ⟨k + 1, l', xs', by go_num, by omega, by omega, by have := HXL.out; omega, by omega, HTd.out⟩
        case measure => simp [intOf]; omega
      ·
        have hcN : ∀ u, Below w.heap.size w u → u.cell? ⟨g1, o1 + k * 2 + 1, none⟩ = some (.int .i64 (N k)) := fun u hu => by
          obtain ⟨g2, o2, he, _, hc⟩ := (HA.out.keep hu).at hlt.1
          cases he
          exact (hc k hlt.1).2
        have hTd := hT.drew noZ
        have HB := hid hTd.below
        have hpu := hTd.put noZ (N k) (by omega)
        clear hT hTd
        go_wp2_with fail
        refine region_held (fun u => Below w.heap.size w u) 16 rfl (by kernel_rfl) HB.out ?_
        intro hHeld
        refine takeO 0 (some 40) (v := ?v34) rfl rfl (by kernel_rfl) (by kernel_rfl) (by kernel_rfl) (Or.inl ⟨by rfl, ?y34⟩) hHeld ?r34
        case y34 => (intro w' hSw; (try dsimp only at hSw); go_simp; try with_reducible rfl)
        try simp only [Act.put, List.setIfInBounds_toArray, List.set_cons_zero, List.set_cons_succ]
        refine takeO 1 (some 41) (v := ?v35) rfl rfl (by kernel_rfl) (by kernel_rfl) (by kernel_rfl) (Or.inl ⟨by rfl, ?y35⟩) hHeld ?r35
        case y35 => (intro w' hSw; (try dsimp only at hSw); go_simp; try with_reducible rfl)
        try simp only [Act.put, List.setIfInBounds_toArray, List.set_cons_zero, List.set_cons_succ]
        refine takeO 2 (some 42) (v := ?v36) rfl rfl (by kernel_rfl) (by kernel_rfl) (by kernel_rfl) (Or.inl ⟨by rfl, ?y36⟩) hHeld ?r36
        case y36 => (intro w' hSw; (try dsimp only at hSw); go_simp; try with_reducible rfl)
        try simp only [Act.put, List.setIfInBounds_toArray, List.set_cons_zero, List.set_cons_succ]
        refine takeO 3 (some 43) (v := ?v37) rfl rfl (by kernel_rfl) (by kernel_rfl) (by kernel_rfl) (Or.inl ⟨by rfl, ?y37⟩) hHeld ?r37
        case y37 => (intro w' hSw; (try dsimp only at hSw); go_simp; try with_reducible rfl)
        try simp only [Act.put, List.setIfInBounds_toArray, List.set_cons_zero, List.set_cons_succ]
        refine takeO 4 (some 44) (v := ?v38) rfl rfl (by kernel_rfl) (by kernel_rfl) (by kernel_rfl) (Or.inl ⟨by rfl, ?y38⟩) hHeld ?r38
        case y38 => (intro w' hSw; (try dsimp only at hSw); go_simp; try with_reducible rfl)
        try simp only [Act.put, List.setIfInBounds_toArray, List.set_cons_zero, List.set_cons_succ]
        refine takeO 5 (some 45) (v := ?v39) rfl rfl (by kernel_rfl) (by kernel_rfl) (by kernel_rfl) (Or.inl ⟨by rfl, ?y39⟩) hHeld ?r39
        case y39 => (intro w' hSw; (try dsimp only at hSw); go_simp; try with_reducible rfl)
        try simp only [Act.put, List.setIfInBounds_toArray, List.set_cons_zero, List.set_cons_succ]
        refine takeO 7 (some 47) (v := ?v40) rfl rfl (by kernel_rfl) (by kernel_rfl) (by kernel_rfl) (Or.inl ⟨by rfl, ?y40⟩) hHeld ?r40
        case y40 => (intro w' hSw; (try dsimp only at hSw); go_simp; try with_reducible rfl)
        try simp only [Act.put, List.setIfInBounds_toArray, List.set_cons_zero, List.set_cons_succ]
        refine takeO 8 (some 48) (v := ?v41) rfl rfl (by kernel_rfl) (by kernel_rfl) (by kernel_rfl) (Or.inl ⟨by rfl, ?y41⟩) hHeld ?r41
        case y41 => (intro w' hSw; (try dsimp only at hSw); go_simp; try with_reducible rfl)
        try simp only [Act.put, List.setIfInBounds_toArray, List.set_cons_zero, List.set_cons_succ]
        refine takeO 9 (some 49) (v := ?v42) rfl rfl (by kernel_rfl) (by kernel_rfl) (by kernel_rfl) (Or.inl ⟨by rfl, ?y42⟩) hHeld ?r42
        case y42 => (intro w' hSw; (try dsimp only at hSw); go_simp; try with_reducible rfl)
        try simp only [Act.put, List.setIfInBounds_toArray, List.set_cons_zero, List.set_cons_succ]
        refine takeO 10 (some 50) (v := ?v43) rfl rfl (by kernel_rfl) (by kernel_rfl) (by kernel_rfl) (Or.inl ⟨by rfl, ?y43⟩) hHeld ?r43
        case y43 => (intro w' hSw; (try dsimp only at hSw); go_simp; try with_reducible rfl)
        try simp only [Act.put, List.setIfInBounds_toArray, List.set_cons_zero, List.set_cons_succ]
        refine takeO 11 (some 51) (v := ?v44) rfl rfl (by kernel_rfl) (by kernel_rfl) (by kernel_rfl) (Or.inl ⟨by rfl, ?y44⟩) hHeld ?r44
        case y44 => (intro w' hSw; (try dsimp only at hSw); go_simp; try with_reducible rfl)
        try simp only [Act.put, List.setIfInBounds_toArray, List.set_cons_zero, List.set_cons_succ]
        refine takeO 12 (some 52) (v := ?v45) rfl rfl (by kernel_rfl) (by kernel_rfl) (by kernel_rfl) (Or.inl ⟨by rfl, ?y45⟩) hHeld ?r45
        case y45 => (intro w' hSw; (try dsimp only at hSw); go_simp; try with_reducible rfl)
        try simp only [Act.put, List.setIfInBounds_toArray, List.set_cons_zero, List.set_cons_succ]
        refine wpAnyH_ready (rs := [6]) (by kernel_rfl) (by simp) ?_
        refine AllReadyH.cons rfl (fun K hK => ?_) AllReadyH.nil
        go_simp
        refine hpu.mono ?_
        rintro e u1 ⟨rfl, hT⟩
        dsimp only
        have hrp := hT.refPut noZ (N k) (by omega) (by omega)
        refine hK.out _ _ hT.below (fun hHeld => ?_)
        clear hK K hpu hT HB
        refine wpAnyH_ready (rs := [13]) (by kernel_rfl) (by simp) ?_
        refine AllReadyH.cons rfl (fun K hK => ?_) AllReadyH.nil
        go_simp
        refine hrp.mono ?_
        rintro e u2 ⟨rfl, hT⟩
        dsimp only
        obtain ⟨xs', hxs⟩ : ∃ xs', (if xs.length < R then xs ++ [N k] else xs) = xs' := ⟨_, rfl⟩
        obtain ⟨l', hl'⟩ : ∃ l', (if xs.length < R then l else l + 1) = l' := ⟨_, rfl⟩
        have hxn : xs'.length ≤ k + 1 := by rw [← hxs]; split <;> (try rw [List.length_append, List.length_singleton]) <;> omega
        have hln : l' ≤ k + 1 := by rw [← hl']; split <;> omega
        rw [hxs, hl'] at hT
        have HT := hid hT
        refine hK.out _ _ hT.below (fun hHeld => ?_)
        clear hK K hrp hT hxs hl'
        refine takeO 14 (some 54) (v := ?v46) rfl rfl (by kernel_rfl) (by kernel_rfl) (by kernel_rfl) (Or.inl ⟨by rfl, ?y46⟩) hHeld ?r46
        case y46 => (intro w' hSw; (try dsimp only at hSw); go_simp; try with_reducible rfl)
        try simp only [Act.put, List.setIfInBounds_toArray, List.set_cons_zero, List.set_cons_succ]
        refine takeO 15 (some 9) (v := ?v47) rfl rfl (by kernel_rfl) (by kernel_rfl) (by kernel_rfl) (Or.inl ⟨by rfl, ?y47⟩) hHeld ?r47
        case y47 => (intro w' hSw; (try dsimp only at hSw); go_simp; try with_reducible rfl)
        try simp only [Act.put, List.setIfInBounds_toArray, List.set_cons_zero, List.set_cons_succ]
        refine wpAnyH_done (by kernel_rfl) (Only.on ?_) _
        clear hHeld hcN
        have hTd := HT.out.drew noZ
        obtain ⟨⟨pL, qL, hc1, _⟩, hc2, _⟩ := hTd.cells
        have hle := hTd.len
        have hlo := hTd.lost
        have HTd := hid hTd
        obtain ⟨xl, hxl'⟩ : ∃ xl, xs'.length = xl := ⟨_, rfl⟩
        rw [hxl'] at hc1 hle
        have HXL := hid hxl'
        clear HT hTd hxl'
        go_wp2_with fail
        refine region_held (fun u => u.cell? ⟨r, 1, none⟩ = some (.slice pL xl qL) ∧ u.cell? ⟨r, 2, none⟩ = some (.int .i64 (l' : Nat))) 21 rfl (by kernel_rfl) ⟨hc1, hc2⟩ ?_
        intro hHeld
        refine takeO 0 (some 83) (v := ?v48) rfl rfl (by kernel_rfl) (by kernel_rfl) (by kernel_rfl) (Or.inl ⟨by rfl, ?y48⟩) hHeld ?r48
        case y48 => (intro w' hSw; (try dsimp only at hSw); go_simp; try with_reducible rfl)
        try simp only [Act.put, List.setIfInBounds_toArray, List.set_cons_zero, List.set_cons_succ]
        refine takeO 1 (some 84) (v := ?v49) rfl rfl (by kernel_rfl) (by kernel_rfl) (by kernel_rfl) (Or.inl ⟨by rfl, ?y49⟩) hHeld ?r49
        case y49 => (intro w' hSw; (try dsimp only at hSw); go_simp; try with_reducible rfl)
        try simp only [Act.put, List.setIfInBounds_toArray, List.set_cons_zero, List.set_cons_succ]
        refine takeO 2 (some 85) (v := ?v50) rfl rfl (by kernel_rfl) (by kernel_rfl) (by kernel_rfl) (Or.inl ⟨by rfl, ?y50⟩) hHeld ?r50
        case y50 => (intro w' hSw; (try dsimp only at hSw); go_simp; try with_reducible rfl)
        try simp only [Act.put, List.setIfInBounds_toArray, List.set_cons_zero, List.set_cons_succ]
        refine takeO 3 (some 86) (v := ?v51) rfl rfl (by kernel_rfl) (by kernel_rfl) (by kernel_rfl) (Or.inl ⟨by rfl, ?y51⟩) hHeld ?r51
        case y51 => (intro w' hSw; (try dsimp only at hSw); go_simp; try with_reducible rfl)
        try simp only [Act.put, List.setIfInBounds_toArray, List.set_cons_zero, List.set_cons_succ]
        refine takeO 5 (some 88) (v := ?v52) rfl rfl (by kernel_rfl) (by kernel_rfl) (by kernel_rfl) (Or.inl ⟨by rfl, ?y52⟩) hHeld ?r52
        case y52 => (intro w' hSw; (try dsimp only at hSw); go_simp; try with_reducible rfl)
        try simp only [Act.put, List.setIfInBounds_toArray, List.set_cons_zero, List.set_cons_succ]
        refine takeO 6 (some 89) (v := ?v53) rfl rfl (by kernel_rfl) (by kernel_rfl) (by kernel_rfl) (Or.inl ⟨by rfl, ?y53⟩) hHeld ?r53
        case y53 => (intro w' hSw; (try dsimp only at hSw); go_simp; try with_reducible rfl)
        try simp only [Act.put, List.setIfInBounds_toArray, List.set_cons_zero, List.set_cons_succ]
        refine takeO 7 (some 90) (v := ?v54) rfl rfl (by kernel_rfl) (by kernel_rfl) (by kernel_rfl) (Or.inl ⟨by rfl, ?y54⟩) hHeld ?r54
        case y54 => (intro w' hSw; (try dsimp only at hSw); go_simp; try with_reducible rfl)
        try simp only [Act.put, List.setIfInBounds_toArray, List.set_cons_zero, List.set_cons_succ]
        refine takeO 8 (some 91) (v := ?v55) rfl rfl (by kernel_rfl) (by kernel_rfl) (by kernel_rfl) (Or.inl ⟨by rfl, ?y55⟩) hHeld ?r55
        case y55 => (intro w' hSw; (try dsimp only at hSw); go_simp; try with_reducible rfl)
        try simp only [Act.put, List.setIfInBounds_toArray, List.set_cons_zero, List.set_cons_succ]
        refine takeO 9 (some 92) (v := ?v56) rfl rfl (by kernel_rfl) (by kernel_rfl) (by kernel_rfl) (Or.inl ⟨by rfl, ?y56⟩) hHeld ?r56
        case y56 => (intro w' hSw; (try dsimp only at hSw); go_simp; try with_reducible rfl)
        try simp only [Act.put, List.setIfInBounds_toArray, List.set_cons_zero, List.set_cons_succ]
        refine wpAnyH_ready (rs := [4]) (by kernel_rfl) (by simp) ?_
        refine AllReadyH.cons rfl (fun K hK => ?_) AllReadyH.nil
        go_simp
        refine hle.mono ?_
        rintro e u1 ⟨rfl, hw⟩
        rw [hw]
        clear hw u1
        dsimp only
        refine hK.out _ _ ⟨hc1, hc2⟩ (fun hHeld => ?_)
        clear hK K hle
        refine takeO 10 (some 93) (v := ?v57) rfl rfl (by kernel_rfl) (by kernel_rfl) (by kernel_rfl) (Or.inl ⟨by rfl, ?y57⟩) hHeld ?r57
        case y57 => (intro w' hSw; (try dsimp only at hSw); go_simp; try with_reducible rfl)
        try simp only [Act.put, List.setIfInBounds_toArray, List.set_cons_zero, List.set_cons_succ]
        refine takeO 11 (some 94) (v := ?v58) rfl rfl (by kernel_rfl) (by kernel_rfl) (by kernel_rfl) (Or.inl ⟨by rfl, ?y58⟩) hHeld ?r58
        case y58 => (intro w' hSw; (try dsimp only at hSw); go_simp; try with_reducible rfl)
        try simp only [Act.put, List.setIfInBounds_toArray, List.set_cons_zero, List.set_cons_succ]
        refine takeO 12 (some 95) (v := ?v59) rfl rfl (by kernel_rfl) (by kernel_rfl) (by kernel_rfl) (Or.inl ⟨by rfl, ?y59⟩) hHeld ?r59
        case y59 => (intro w' hSw; (try dsimp only at hSw); go_simp; try with_reducible rfl)
        try simp only [Act.put, List.setIfInBounds_toArray, List.set_cons_zero, List.set_cons_succ]
        refine takeO 13 (some 96) (v := ?v60) rfl rfl (by kernel_rfl) (by kernel_rfl) (by kernel_rfl) (Or.inl ⟨by rfl, ?y60⟩) hHeld ?r60
        case y60 => (intro w' hSw; (try dsimp only at hSw); go_simp; try with_reducible rfl)
        try simp only [Act.put, List.setIfInBounds_toArray, List.set_cons_zero, List.set_cons_succ]
        refine takeO 15 (some 98) (v := ?v61) rfl rfl (by kernel_rfl) (by kernel_rfl) (by kernel_rfl) (Or.inl ⟨by rfl, ?y61⟩) hHeld ?r61
        case y61 => (intro w' hSw; (try dsimp only at hSw); go_simp; try with_reducible rfl)
        try simp only [Act.put, List.setIfInBounds_toArray, List.set_cons_zero, List.set_cons_succ]
        refine takeO 16 (some 99) (v := ?v62) rfl rfl (by kernel_rfl) (by kernel_rfl) (by kernel_rfl) (Or.inl ⟨by rfl, ?y62⟩) hHeld ?r62
        case y62 => (intro w' hSw; (try dsimp only at hSw); go_simp; try with_reducible rfl)
        try simp only [Act.put, List.setIfInBounds_toArray, List.set_cons_zero, List.set_cons_succ]
        refine takeO 17 (some 100) (v := ?v63) rfl rfl (by kernel_rfl) (by kernel_rfl) (by kernel_rfl) (Or.inl ⟨by rfl, ?y63⟩) hHeld ?r63
        case y63 => (intro w' hSw; (try dsimp only at hSw); go_simp; try with_reducible rfl)
        try simp only [Act.put, List.setIfInBounds_toArray, List.set_cons_zero, List.set_cons_succ]
        refine takeO 18 (some 101) (v := ?v64) rfl rfl (by kernel_rfl) (by kernel_rfl) (by kernel_rfl) (Or.inl ⟨by rfl, ?y64⟩) hHeld ?r64
        case y64 => (intro w' hSw; (try dsimp only at hSw); go_simp; try with_reducible rfl)
        try simp only [Act.put, List.setIfInBounds_toArray, List.set_cons_zero, List.set_cons_succ]
        refine wpAnyH_ready (rs := [14]) (by kernel_rfl) (by simp) ?_
        refine AllReadyH.cons rfl (fun K hK => ?_) AllReadyH.nil
        go_simp
        refine hlo.mono ?_
        rintro e u1 ⟨rfl, hw⟩
        rw [hw]
        clear hw u1
        dsimp only
        refine hK.out _ _ ⟨hc1, hc2⟩ (fun hHeld => ?_)
        clear hK K hlo
        refine takeO 19 (some 102) (v := ?v65) rfl rfl (by kernel_rfl) (by kernel_rfl) (by kernel_rfl) (Or.inl ⟨by rfl, ?y65⟩) hHeld ?r65
        case y65 => (intro w' hSw; (try dsimp only at hSw); go_simp; try with_reducible rfl)
        try simp only [Act.put, List.setIfInBounds_toArray, List.set_cons_zero, List.set_cons_succ]
        refine takeO 20 (some 103) (v := ?v66) rfl rfl (by kernel_rfl) (by kernel_rfl) (by kernel_rfl) (Or.inl ⟨by rfl, ?y66⟩) hHeld ?r66
        case y66 => (intro w' hSw; (try dsimp only at hSw); go_simp; try with_reducible rfl)
        try simp only [Act.put, List.setIfInBounds_toArray, List.set_cons_zero, List.set_cons_succ]
        refine wpAnyH_done (by kernel_rfl) (Only.on ?_) _
        clear hHeld hc1 hc2
        go_wp2_with fail
        go_roundw
        case rel => exact ⟨k + 1, l', xs', by go_num, by omega, by omega, by have := HXL.out; omega, by omega, HTd.out⟩
        case measure => simp [intOf]; omega
      ·
        have hcN : ∀ u, Below w.heap.size w u → u.cell? ⟨g1, o1 + k * 2 + 1, none⟩ = some (.int .i64 (N k)) := fun u hu => by
          obtain ⟨g2, o2, he, _, hc⟩ := (HA.out.keep hu).at hlt.1
          cases he
          exact (hc k hlt.1).2
        have hTd := hT.drew noZ
        have HB := hid hTd.below
        have hpu := hTd.put noZ (N k) (by omega)
        clear hT hTd
        go_wp2_with fail
        refine region_held (fun u => Below w.heap.size w u) 16 rfl (by kernel_rfl) HB.out ?_
        intro hHeld
        refine takeO 0 (some 40) (v := ?v67) rfl rfl (by kernel_rfl) (by kernel_rfl) (by kernel_rfl) (Or.inl ⟨by rfl, ?y67⟩) hHeld ?r67
        case y67 => (intro w' hSw; (try dsimp only at hSw); go_simp; try with_reducible rfl)
        try simp only [Act.put, List.setIfInBounds_toArray, List.set_cons_zero, List.set_cons_succ]
        refine takeO 1 (some 41) (v := ?v68) rfl rfl (by kernel_rfl) (by kernel_rfl) (by kernel_rfl) (Or.inl ⟨by rfl, ?y68⟩) hHeld ?r68
        case y68 => (intro w' hSw; (try dsimp only at hSw); go_simp; try with_reducible rfl)
        try simp only [Act.put, List.setIfInBounds_toArray, List.set_cons_zero, List.set_cons_succ]
        refine takeO 2 (some 42) (v := ?v69) rfl rfl (by kernel_rfl) (by kernel_rfl) (by kernel_rfl) (Or.inl ⟨by rfl, ?y69⟩) hHeld ?r69
        case y69 => (intro w' hSw; (try dsimp only at hSw); go_simp; try with_reducible rfl)
        try simp only [Act.put, List.setIfInBounds_toArray, List.set_cons_zero, List.set_cons_succ]
        refine takeO 3 (some 43) (v := ?v70) rfl rfl (by kernel_rfl) (by kernel_rfl) (by kernel_rfl) (Or.inl ⟨by rfl, ?y70⟩) hHeld ?r70
        case y70 => (intro w' hSw; (try dsimp only at hSw); go_simp; try with_reducible rfl)
        try simp only [Act.put, List.setIfInBounds_toArray, List.set_cons_zero, List.set_cons_succ]
        refine takeO 4 (some 44) (v := ?v71) rfl rfl (by kernel_rfl) (by kernel_rfl) (by kernel_rfl) (Or.inl ⟨by rfl, ?y71⟩) hHeld ?r71
        case y71 => (intro w' hSw; (try dsimp only at hSw); go_simp; try with_reducible rfl)
        try simp only [Act.put, List.setIfInBounds_toArray, List.set_cons_zero, List.set_cons_succ]
        refine takeO 5 (some 45) (v := ?v72) rfl rfl (by kernel_rfl) (by kernel_rfl) (by kernel_rfl) (Or.inl ⟨by rfl, ?y72⟩) hHeld ?r72
        case y72 => (intro w' hSw; (try dsimp only at hSw); go_simp; try with_reducible rfl)
        try simp only [Act.put, List.setIfInBounds_toArray, List.set_cons_zero, List.set_cons_succ]
        refine takeO 7 (some 47) (v := ?v73) rfl rfl (by kernel_rfl) (by kernel_rfl) (by kernel_rfl) (Or.inl ⟨by rfl, ?y73⟩) hHeld ?r73
        case y73 => (intro w' hSw; (try dsimp only at hSw); go_simp; try with_reducible rfl)
        try simp only [Act.put, List.setIfInBounds_toArray, List.set_cons_zero, List.set_cons_succ]
        refine takeO 8 (some 48) (v := ?v74) rfl rfl (by kernel_rfl) (by kernel_rfl) (by kernel_rfl) (Or.inl ⟨by rfl, ?y74⟩) hHeld ?r74
        case y74 => (intro w' hSw; (try dsimp only at hSw); go_simp; try with_reducible rfl)
        try simp only [Act.put, List.setIfInBounds_toArray, List.set_cons_zero, List.set_cons_succ]
        refine takeO 9 (some 49) (v := ?v75) rfl rfl (by kernel_rfl) (by kernel_rfl) (by kernel_rfl) (Or.inl ⟨by rfl, ?y75⟩) hHeld ?r75
        case y75 => (intro w' hSw; (try dsimp only at hSw); go_simp; try with_reducible rfl)
        try simp only [Act.put, List.setIfInBounds_toArray, List.set_cons_zero, List.set_cons_succ]
        refine takeO 10 (some 50) (v := ?v76) rfl rfl (by kernel_rfl) (by kernel_rfl) (by kernel_rfl) (Or.inl ⟨by rfl, ?y76⟩) hHeld ?r76
        case y76 => (intro w' hSw; (try dsimp only at hSw); go_simp; try with_reducible rfl)
        try simp only [Act.put, List.setIfInBounds_toArray, List.set_cons_zero, List.set_cons_succ]
        refine takeO 11 (some 51) (v := ?v77) rfl rfl (by kernel_rfl) (by kernel_rfl) (by kernel_rfl) (Or.inl ⟨by rfl, ?y77⟩) hHeld ?r77
        case y77 => (intro w' hSw; (try dsimp only at hSw); go_simp; try with_reducible rfl)
        try simp only [Act.put, List.setIfInBounds_toArray, List.set_cons_zero, List.set_cons_succ]
        refine takeO 12 (some 52) (v := ?v78) rfl rfl (by kernel_rfl) (by kernel_rfl) (by kernel_rfl) (Or.inl ⟨by rfl, ?y78⟩) hHeld ?r78
        case y78 => (intro w' hSw; (try dsimp only at hSw); go_simp; try with_reducible rfl)
        try simp only [Act.put, List.setIfInBounds_toArray, List.set_cons_zero, List.set_cons_succ]
        refine wpAnyH_ready (rs := [6]) (by kernel_rfl) (by simp) ?_
        refine AllReadyH.cons rfl (fun K hK => ?_) AllReadyH.nil
        go_simp
        refine hpu.mono ?_
        rintro e u1 ⟨rfl, hT⟩
        dsimp only
        have hrp := hT.refPut noZ (N k) (by omega) (by omega)
        refine hK.out _ _ hT.below (fun hHeld => ?_)
        clear hK K hpu hT HB
        refine wpAnyH_ready (rs := [13]) (by kernel_rfl) (by simp) ?_
        refine AllReadyH.cons rfl (fun K hK => ?_) AllReadyH.nil
        go_simp
        refine hrp.mono ?_
        rintro e u2 ⟨rfl, hT⟩
        dsimp only
        obtain ⟨xs', hxs⟩ : ∃ xs', (if xs.length < R then xs ++ [N k] else xs) = xs' := ⟨_, rfl⟩
        obtain ⟨l', hl'⟩ : ∃ l', (if xs.length < R then l else l + 1) = l' := ⟨_, rfl⟩
        have hxn : xs'.length ≤ k + 1 := by rw [← hxs]; split <;> (try rw [List.length_append, List.length_singleton]) <;> omega
        have hln : l' ≤ k + 1 := by rw [← hl']; split <;> omega
        rw [hxs, hl'] at hT
        have HT := hid hT
        refine hK.out _ _ hT.below (fun hHeld => ?_)
        clear hK K hrp hT hxs hl'
        refine takeO 14 (some 54) (v := ?v79) rfl rfl (by kernel_rfl) (by kernel_rfl) (by kernel_rfl) (Or.inl ⟨by rfl, ?y79⟩) hHeld ?r79
        case y79 => (intro w' hSw; (try dsimp only at hSw); go_simp; try with_reducible rfl)
        try simp only [Act.put, List.setIfInBounds_toArray, List.set_cons_zero, List.set_cons_succ]
        refine takeO 15 (some 9) (v := ?v80) rfl rfl (by kernel_rfl) (by kernel_rfl) (by kernel_rfl) (Or.inl ⟨by rfl, ?y80⟩) hHeld ?r80
        case y80 => (intro w' hSw; (try dsimp only at hSw); go_simp; try with_reducible rfl)
        try simp only [Act.put, List.setIfInBounds_toArray, List.set_cons_zero, List.set_cons_succ]
        refine wpAnyH_done (by kernel_rfl) (Only.on ?_) _
        clear hHeld hcN
        have hTd := HT.out.drew noZ
        obtain ⟨⟨pL, qL, hc1, _⟩, hc2, _⟩ := hTd.cells
        have hle := hTd.len
        have hlo := hTd.lost
        have HTd := hid hTd
        obtain ⟨xl, hxl'⟩ : ∃ xl, xs'.length = xl := ⟨_, rfl⟩
        rw [hxl'] at hc1 hle
        have HXL := hid hxl'
        clear HT hTd hxl'
        go_wp2_with fail
        refine region_held (fun u => u.cell? ⟨r, 1, none⟩ = some (.slice pL xl qL) ∧ u.cell? ⟨r, 2, none⟩ = some (.int .i64 (l' : Nat))) 21 rfl (by kernel_rfl) ⟨hc1, hc2⟩ ?_
        intro hHeld
        refine takeO 0 (some 83) (v := ?v81) rfl rfl (by kernel_rfl) (by kernel_rfl) (by kernel_rfl) (Or.inl ⟨by rfl, ?y81⟩) hHeld ?r81
        case y81 => (intro w' hSw; (try dsimp only at hSw); go_simp; try with_reducible rfl)
        try simp only [Act.put, List.setIfInBounds_toArray, List.set_cons_zero, List.set_cons_succ]
        refine takeO 1 (some 84) (v := ?v82) rfl rfl (by kernel_rfl) (by kernel_rfl) (by kernel_rfl) (Or.inl ⟨by rfl, ?y82⟩) hHeld ?r82
        case y82 => (intro w' hSw; (try dsimp only at hSw); go_simp; try with_reducible rfl)
        try simp only [Act.put, List.setIfInBounds_toArray, List.set_cons_zero, List.set_cons_succ]
        refine takeO 2 (some 85) (v := ?v83) rfl rfl (by kernel_rfl) (by kernel_rfl) (by kernel_rfl) (Or.inl ⟨by rfl, ?y83⟩) hHeld ?r83
        case y83 => (intro w' hSw; (try dsimp only at hSw); go_simp; try with_reducible rfl)
        try simp only [Act.put, List.setIfInBounds_toArray, List.set_cons_zero, List.set_cons_succ]
        refine takeO 3 (some 86) (v := ?v84) rfl rfl (by kernel_rfl) (by kernel_rfl) (by kernel_rfl) (Or.inl ⟨by rfl, ?y84⟩) hHeld ?r84
        case y84 => (intro w' hSw; (try dsimp only at hSw); go_simp; try with_reducible rfl)
        try simp only [Act.put, List.setIfInBounds_toArray, List.set_cons_zero, List.set_cons_succ]
        refine takeO 5 (some 88) (v := ?v85) rfl rfl (by kernel_rfl) (by kernel_rfl) (by kernel_rfl) (Or.inl ⟨by rfl, ?y85⟩) hHeld ?r85
        case y85 => (intro w' hSw; (try dsimp only at hSw); go_simp; try with_reducible rfl)
        try simp only [Act.put, List.setIfInBounds_toArray, List.set_cons_zero, List.set_cons_succ]
        refine takeO 6 (some 89) (v := ?v86) rfl rfl (by kernel_rfl) (by kernel_rfl) (by kernel_rfl) (Or.inl ⟨by rfl, ?y86⟩) hHeld ?r86
        case y86 => (intro w' hSw; (try dsimp only at hSw); go_simp; try with_reducible rfl)
        try simp only [Act.put, List.setIfInBounds_toArray, List.set_cons_zero, List.set_cons_succ]
        refine takeO 7 (some 90) (v := ?v87) rfl rfl (by kernel_rfl) (by kernel_rfl) (by kernel_rfl) (Or.inl ⟨by rfl, ?y87⟩) hHeld ?r87
        case y87 => (intro w' hSw; (try dsimp only at hSw); go_simp; try with_reducible rfl)
        try simp only [Act.put, List.setIfInBounds_toArray, List.set_cons_zero, List.set_cons_succ]
        refine takeO 8 (some 91) (v := ?v88) rfl rfl (by kernel_rfl) (by kernel_rfl) (by kernel_rfl) (Or.inl ⟨by rfl, ?y88⟩) hHeld ?r88
        case y88 => (intro w' hSw; (try dsimp only at hSw); go_simp; try with_reducible rfl)
        try simp only [Act.put, List.setIfInBounds_toArray, List.set_cons_zero, List.set_cons_succ]
        refine takeO 9 (some 92) (v := ?v89) rfl rfl (by kernel_rfl) (by kernel_rfl) (by kernel_rfl) (Or.inl ⟨by rfl, ?y89⟩) hHeld ?r89
        case y89 => (intro w' hSw; (try dsimp only at hSw); go_simp; try with_reducible rfl)
        try simp only [Act.put, List.setIfInBounds_toArray, List.set_cons_zero, List.set_cons_succ]
        refine wpAnyH_ready (rs := [4]) (by kernel_rfl) (by simp) ?_
        refine AllReadyH.cons rfl (fun K hK => ?_) AllReadyH.nil
        go_simp
        refine hle.mono ?_
        rintro e u1 ⟨rfl, hw⟩
        rw [hw]
        clear hw u1
        dsimp only
        refine hK.out _ _ ⟨hc1, hc2⟩ (fun hHeld => ?_)
        clear hK K hle
        refine takeO 10 (some 93) (v := ?v90) rfl rfl (by kernel_rfl) (by kernel_rfl) (by kernel_rfl) (Or.inl ⟨by rfl, ?y90⟩) hHeld ?r90
        case y90 => (intro w' hSw; (try dsimp only at hSw); go_simp; try with_reducible rfl)
        try simp only [Act.put, List.setIfInBounds_toArray, List.set_cons_zero, List.set_cons_succ]
        refine takeO 11 (some 94) (v := ?v91) rfl rfl (by kernel_rfl) (by kernel_rfl) (by kernel_rfl) (Or.inl ⟨by rfl, ?y91⟩) hHeld ?r91
        case y91 => (intro w' hSw; (try dsimp only at hSw); go_simp; try with_reducible rfl)
        try simp only [Act.put, List.setIfInBounds_toArray, List.set_cons_zero, List.set_cons_succ]
        refine takeO 12 (some 95) (v := ?v92) rfl rfl (by kernel_rfl) (by kernel_rfl) (by kernel_rfl) (Or.inl ⟨by rfl, ?y92⟩) hHeld ?r92
        case y92 => (intro w' hSw; (try dsimp only at hSw); go_simp; try with_reducible rfl)
        try simp only [Act.put, List.setIfInBounds_toArray, List.set_cons_zero, List.set_cons_succ]
        refine takeO 13 (some 96) (v := ?v93) rfl rfl (by kernel_rfl) (by kernel_rfl) (by kernel_rfl) (Or.inl ⟨by rfl, ?y93⟩) hHeld ?r93
        case y93 => (intro w' hSw; (try dsimp only at hSw); go_simp; try with_reducible rfl)
        try simp only [Act.put, List.setIfInBounds_toArray, List.set_cons_zero, List.set_cons_succ]
        refine takeO 15 (some 98) (v := ?v94) rfl rfl (by kernel_rfl) (by kernel_rfl) (by kernel_rfl) (Or.inl ⟨by rfl, ?y94⟩) hHeld ?r94
        case y94 => (intro w' hSw; (try dsimp only at hSw); go_simp; try with_reducible rfl)
        try simp only [Act.put, List.setIfInBounds_toArray, List.set_cons_zero, List.set_cons_succ]
        refine takeO 16 (some 99) (v := ?v95) rfl rfl (by kernel_rfl) (by kernel_rfl) (by kernel_rfl) (Or.inl ⟨by rfl, ?y95⟩) hHeld ?r95
        case y95 => (intro w' hSw; (try dsimp only at hSw); go_simp; try with_reducible rfl)
        try simp only [Act.put, List.setIfInBounds_toArray, List.set_cons_zero, List.set_cons_succ]
        refine takeO 17 (some 100) (v := ?v96) rfl rfl (by kernel_rfl) (by kernel_rfl) (by kernel_rfl) (Or.inl ⟨by rfl, ?y96⟩) hHeld ?r96
        case y96 => (intro w' hSw; (try dsimp only at hSw); go_simp; try with_reducible rfl)
        try simp only [Act.put, List.setIfInBounds_toArray, List.set_cons_zero, List.set_cons_succ]
        refine takeO 18 (some 101) (v := ?v97) rfl rfl (by kernel_rfl) (by kernel_rfl) (by kernel_rfl) (Or.inl ⟨by rfl, ?y97⟩) hHeld ?r97
        case y97 => (intro w' hSw; (try dsimp only at hSw); go_simp; try with_reducible rfl)
        try simp only [Act.put, List.setIfInBounds_toArray, List.set_cons_zero, List.set_cons_succ]
        refine wpAnyH_ready (rs := [14]) (by kernel_rfl) (by simp) ?_
        refine AllReadyH.cons rfl (fun K hK => ?_) AllReadyH.nil
        go_simp
        refine hlo.mono ?_
        rintro e u1 ⟨rfl, hw⟩
        rw [hw]
        clear hw u1
        dsimp only
        refine hK.out _ _ ⟨hc1, hc2⟩ (fun hHeld => ?_)
        clear hK K hlo
        refine takeO 19 (some 102) (v := ?v98) rfl rfl (by kernel_rfl) (by kernel_rfl) (by kernel_rfl) (Or.inl ⟨by rfl, ?y98⟩) hHeld ?r98
        case y98 => (intro w' hSw; (try dsimp only at hSw); go_simp; try with_reducible rfl)
        try simp only [Act.put, List.setIfInBounds_toArray, List.set_cons_zero, List.set_cons_succ]
        refine takeO 20 (some 103) (v := ?v99) rfl rfl (by kernel_rfl) (by kernel_rfl) (by kernel_rfl) (Or.inl ⟨by rfl, ?y99⟩) hHeld ?r99
        case y99 => (intro w' hSw; (try dsimp only at hSw); go_simp; try with_reducible rfl)
        try simp only [Act.put, List.setIfInBounds_toArray, List.set_cons_zero, List.set_cons_succ]
        refine wpAnyH_done (by kernel_rfl) (Only.on ?_) _
        clear hHeld hc1 hc2
        go_wp2_with fail
        go_roundw
        case rel => exact ⟨k + 1, l', xs', by go_num, by omega, by omega, by have := HXL.out; omega, by omega, HTd.out⟩
        case measure => simp [intOf]; omega
      ·
        cases xs with
        | nil =>
          have htk := hT.takeNo
          have htr := hT.refTakeNo
          have HT := hid hT
          obtain ⟨xs', hxs⟩ : ∃ xs' : List Int, [] = xs' := ⟨_, rfl⟩
          obtain ⟨l', hl'⟩ : ∃ l', l = l' := ⟨_, rfl⟩
          rw [hl', hxs] at HT
          rw [hxs] at hxl
          rw [hl'] at hlk
          clear hT hxs hl'
          go_wp2_with fail
          refine htk.mono ?_; rintro e w6 ⟨rfl, hw⟩
          rw [hw]
          clear hw w6 htk
          go_wp2_with fail
          refine htr.mono ?_; rintro e w6 ⟨rfl, hw⟩
          rw [hw]
          clear hw w6 htr
          have hTd := HT.out.drew noZ
          obtain ⟨⟨pL, qL, hc1, _⟩, hc2, _⟩ := hTd.cells
          have hle := hTd.len
          have hlo := hTd.lost
          have HTd := hid hTd
          obtain ⟨xl, hxl'⟩ : ∃ xl, xs'.length = xl := ⟨_, rfl⟩
          rw [hxl'] at hc1 hle
          have HXL := hid hxl'
          clear HT hTd hxl'
          go_wp2_with fail
          refine region_held (fun u => u.cell? ⟨r, 1, none⟩ = some (.slice pL xl qL) ∧ u.cell? ⟨r, 2, none⟩ = some (.int .i64 (l' : Nat))) 21 rfl (by kernel_rfl) ⟨hc1, hc2⟩ ?_
          intro hHeld
          refine takeO 0 (some 83) (v := ?v100) rfl rfl (by kernel_rfl) (by kernel_rfl) (by kernel_rfl) (Or.inl ⟨by rfl, ?y100⟩) hHeld ?r100
          case y100 => (intro w' hSw; (try dsimp only at hSw); go_simp; try with_reducible rfl)
          try simp only [Act.put, List.setIfInBounds_toArray, List.set_cons_zero, List.set_cons_succ]
          refine takeO 1 (some 84) (v := ?v101) rfl rfl (by kernel_rfl) (by kernel_rfl) (by kernel_rfl) (Or.inl ⟨by rfl, ?y101⟩) hHeld ?r101
          case y101 => (intro w' hSw; (try dsimp only at hSw); go_simp; try with_reducible rfl)
          try simp only [Act.put, List.setIfInBounds_toArray, List.set_cons_zero, List.set_cons_succ]
          refine takeO 2 (some 85) (v := ?v102) rfl rfl (by kernel_rfl) (by kernel_rfl) (by kernel_rfl) (Or.inl ⟨by rfl, ?y102⟩) hHeld ?r102
          case y102 => (intro w' hSw; (try dsimp only at hSw); go_simp; try with_reducible rfl)
          try simp only [Act.put, List.setIfInBounds_toArray, List.set_cons_zero, List.set_cons_succ]
          refine takeO 3 (some 86) (v := ?v103) rfl rfl (by kernel_rfl) (by kernel_rfl) (by kernel_rfl) (Or.inl ⟨by rfl, ?y103⟩) hHeld ?r103
          case y103 => (intro w' hSw; (try dsimp only at hSw); go_simp; try with_reducible rfl)
          try simp only [Act.put, List.setIfInBounds_toArray, List.set_cons_zero, List.set_cons_succ]
          refine takeO 5 (some 88) (v := ?v104) rfl rfl (by kernel_rfl) (by kernel_rfl) (by kernel_rfl) (Or.inl ⟨by rfl, ?y104⟩) hHeld ?r104
          case y104 => (intro w' hSw; (try dsimp only at hSw); go_simp; try with_reducible rfl)
          try simp only [Act.put, List.setIfInBounds_toArray, List.set_cons_zero, List.set_cons_succ]
          refine takeO 6 (some 89) (v := ?v105) rfl rfl (by kernel_rfl) (by kernel_rfl) (by kernel_rfl) (Or.inl ⟨by rfl, ?y105⟩) hHeld ?r105
          case y105 => (intro w' hSw; (try dsimp only at hSw); go_simp; try with_reducible rfl)
          try simp only [Act.put, List.setIfInBounds_toArray, List.set_cons_zero, List.set_cons_succ]
          refine takeO 7 (some 90) (v := ?v106) rfl rfl (by kernel_rfl) (by kernel_rfl) (by kernel_rfl) (Or.inl ⟨by rfl, ?y106⟩) hHeld ?r106
          case y106 => (intro w' hSw; (try dsimp only at hSw); go_simp; try with_reducible rfl)
          try simp only [Act.put, List.setIfInBounds_toArray, List.set_cons_zero, List.set_cons_succ]
          refine takeO 8 (some 91) (v := ?v107) rfl rfl (by kernel_rfl) (by kernel_rfl) (by kernel_rfl) (Or.inl ⟨by rfl, ?y107⟩) hHeld ?r107
          case y107 => (intro w' hSw; (try dsimp only at hSw); go_simp; try with_reducible rfl)
          try simp only [Act.put, List.setIfInBounds_toArray, List.set_cons_zero, List.set_cons_succ]
          refine takeO 9 (some 92) (v := ?v108) rfl rfl (by kernel_rfl) (by kernel_rfl) (by kernel_rfl) (Or.inl ⟨by rfl, ?y108⟩) hHeld ?r108
          case y108 => (intro w' hSw; (try dsimp only at hSw); go_simp; try with_reducible rfl)
          try simp only [Act.put, List.setIfInBounds_toArray, List.set_cons_zero, List.set_cons_succ]
          refine wpAnyH_ready (rs := [4]) (by kernel_rfl) (by simp) ?_
          refine AllReadyH.cons rfl (fun K hK => ?_) AllReadyH.nil
          go_simp
          refine hle.mono ?_
          rintro e u1 ⟨rfl, hw⟩
          rw [hw]
          clear hw u1
          dsimp only
          refine hK.out _ _ ⟨hc1, hc2⟩ (fun hHeld => ?_)
          clear hK K hle
          refine takeO 10 (some 93) (v := ?v109) rfl rfl (by kernel_rfl) (by kernel_rfl) (by kernel_rfl) (Or.inl ⟨by rfl, ?y109⟩) hHeld ?r109
          case y109 => (intro w' hSw; (try dsimp only at hSw); go_simp; try with_reducible rfl)
          try simp only [Act.put, List.setIfInBounds_toArray, List.set_cons_zero, List.set_cons_succ]
          refine takeO 11 (some 94) (v := ?v110) rfl rfl (by kernel_rfl) (by kernel_rfl) (by kernel_rfl) (Or.inl ⟨by rfl, ?y110⟩) hHeld ?r110
          case y110 => (intro w' hSw; (try dsimp only at hSw); go_simp; try with_reducible rfl)
          try simp only [Act.put, List.setIfInBounds_toArray, List.set_cons_zero, List.set_cons_succ]
          refine takeO 12 (some 95) (v := ?v111) rfl rfl (by kernel_rfl) (by kernel_rfl) (by kernel_rfl) (Or.inl ⟨by rfl, ?y111⟩) hHeld ?r111
          case y111 => (intro w' hSw; (try dsimp only at hSw); go_simp; try with_reducible rfl)
          try simp only [Act.put, List.setIfInBounds_toArray, List.set_cons_zero, List.set_cons_succ]
          refine takeO 13 (some 96) (v := ?v112) rfl rfl (by kernel_rfl) (by kernel_rfl) (by kernel_rfl) (Or.inl ⟨by rfl, ?y112⟩) hHeld ?r112
          case y112 => (intro w' hSw; (try dsimp only at hSw); go_simp; try with_reducible rfl)
          try simp only [Act.put, List.setIfInBounds_toArray, List.set_cons_zero, List.set_cons_succ]
          refine takeO 15 (some 98) (v := ?v113) rfl rfl (by kernel_rfl) (by kernel_rfl) (by kernel_rfl) (Or.inl ⟨by rfl, ?y113⟩) hHeld ?r113
          case y113 => (intro w' hSw; (try dsimp only at hSw); go_simp; try with_reducible rfl)
          try simp only [Act.put, List.setIfInBounds_toArray, List.set_cons_zero, List.set_cons_succ]
          refine takeO 16 (some 99) (v := ?v114) rfl rfl (by kernel_rfl) (by kernel_rfl) (by kernel_rfl) (Or.inl ⟨by rfl, ?y114⟩) hHeld ?r114
          case y114 => (intro w' hSw; (try dsimp only at hSw); go_simp; try with_reducible rfl)
          try simp only [Act.put, List.setIfInBounds_toArray, List.set_cons_zero, List.set_cons_succ]
          refine takeO 17 (some 100) (v := ?v115) rfl rfl (by kernel_rfl) (by kernel_rfl) (by kernel_rfl) (Or.inl ⟨by rfl, ?y115⟩) hHeld ?r115
          case y115 => (intro w' hSw; (try dsimp only at hSw); go_simp; try with_reducible rfl)
          try simp only [Act.put, List.setIfInBounds_toArray, List.set_cons_zero, List.set_cons_succ]
          refine takeO 18 (some 101) (v := ?v116) rfl rfl (by kernel_rfl) (by kernel_rfl) (by kernel_rfl) (Or.inl ⟨by rfl, ?y116⟩) hHeld ?r116
          case y116 => (intro w' hSw; (try dsimp only at hSw); go_simp; try with_reducible rfl)
          try simp only [Act.put, List.setIfInBounds_toArray, List.set_cons_zero, List.set_cons_succ]
          refine wpAnyH_ready (rs := [14]) (by kernel_rfl) (by simp) ?_
          refine AllReadyH.cons rfl (fun K hK => ?_) AllReadyH.nil
          go_simp
          refine hlo.mono ?_
          rintro e u1 ⟨rfl, hw⟩
          rw [hw]
          clear hw u1
          dsimp only
          refine hK.out _ _ ⟨hc1, hc2⟩ (fun hHeld => ?_)
          clear hK K hlo
          refine takeO 19 (some 102) (v := ?v117) rfl rfl (by kernel_rfl) (by kernel_rfl) (by kernel_rfl) (Or.inl ⟨by rfl, ?y117⟩) hHeld ?r117
          case y117 => (intro w' hSw; (try dsimp only at hSw); go_simp; try with_reducible rfl)
          try simp only [Act.put, List.setIfInBounds_toArray, List.set_cons_zero, List.set_cons_succ]
          refine takeO 20 (some 103) (v := ?v118) rfl rfl (by kernel_rfl) (by kernel_rfl) (by kernel_rfl) (Or.inl ⟨by rfl, ?y118⟩) hHeld ?r118
          case y118 => (intro w' hSw; (try dsimp only at hSw); go_simp; try with_reducible rfl)
          try simp only [Act.put, List.setIfInBounds_toArray, List.set_cons_zero, List.set_cons_succ]
          refine wpAnyH_done (by kernel_rfl) (Only.on ?_) _
          clear hHeld hc1 hc2
          go_wp2_with fail
          go_roundw
          case rel => exact ⟨k + 1, l', xs', by go_num, by omega, by omega, by have := HXL.out; omega, by omega, HTd.out⟩
          case measure => simp [intOf]; omega
        | cons x xs' =>
          have htk := hT.take noZ
          rw [List.length_cons] at hxl
          clear hT
          go_wp2_with fail
          refine htk.mono ?_; rintro e w6 ⟨rfl, hT⟩
          have htr := hT.refTake noZ (by omega)
          clear htk hT
          go_wp2_with fail
          refine htr.mono ?_; rintro e w6 ⟨rfl, hT⟩
          obtain ⟨l', hl'⟩ : ∃ l', l = l' := ⟨_, rfl⟩
          rw [hl'] at hT hlk
          have HT := hid hT
          clear htr hT hl'
          have hTd := HT.out.drew noZ
          obtain ⟨⟨pL, qL, hc1, _⟩, hc2, _⟩ := hTd.cells
          have hle := hTd.len
          have hlo := hTd.lost
          have HTd := hid hTd
          obtain ⟨xl, hxl'⟩ : ∃ xl, xs'.length = xl := ⟨_, rfl⟩
          rw [hxl'] at hc1 hle
          have HXL := hid hxl'
          clear HT hTd hxl'
          go_wp2_with fail
          refine region_held (fun u => u.cell? ⟨r, 1, none⟩ = some (.slice pL xl qL) ∧ u.cell? ⟨r, 2, none⟩ = some (.int .i64 (l' : Nat))) 21 rfl (by kernel_rfl) ⟨hc1, hc2⟩ ?_
          intro hHeld
          refine takeO 0 (some 83) (v := ?v119) rfl rfl (by kernel_rfl) (by kernel_rfl) (by kernel_rfl) (Or.inl ⟨by rfl, ?y119⟩) hHeld ?r119
          case y119 => (intro w' hSw; (try dsimp only at hSw); go_simp; try with_reducible rfl)
          try simp only [Act.put, List.setIfInBounds_toArray, List.set_cons_zero, List.set_cons_succ]
          refine takeO 1 (some 84) (v := ?v120) rfl rfl (by kernel_rfl) (by kernel_rfl) (by kernel_rfl) (Or.inl ⟨by rfl, ?y120⟩) hHeld ?r120
          case y120 => (intro w' hSw; (try dsimp only at hSw); go_simp; try with_reducible rfl)
          try simp only [Act.put, List.setIfInBounds_toArray, List.set_cons_zero, List.set_cons_succ]
          refine takeO 2 (some 85) (v := ?v121) rfl rfl (by kernel_rfl) (by kernel_rfl) (by kernel_rfl) (Or.inl ⟨by rfl, ?y121⟩) hHeld ?r121
          case y121 => (intro w' hSw; (try dsimp only at hSw); go_simp; try with_reducible rfl)
          try simp only [Act.put, List.setIfInBounds_toArray, List.set_cons_zero, List.set_cons_succ]
          refine takeO 3 (some 86) (v := ?v122) rfl rfl (by kernel_rfl) (by kernel_rfl) (by kernel_rfl) (Or.inl ⟨by rfl, ?y122⟩) hHeld ?r122
          case y122 => (intro w' hSw; (try dsimp only at hSw); go_simp; try with_reducible rfl)
          try simp only [Act.put, List.setIfInBounds_toArray, List.set_cons_zero, List.set_cons_succ]
          refine takeO 5 (some 88) (v := ?v123) rfl rfl (by kernel_rfl) (by kernel_rfl) (by kernel_rfl) (Or.inl ⟨by rfl, ?y123⟩) hHeld ?r123
          case y123 => (intro w' hSw; (try dsimp only at hSw); go_simp; try with_reducible rfl)
          try simp only [Act.put, List.setIfInBounds_toArray, List.set_cons_zero, List.set_cons_succ]
          refine takeO 6 (some 89) (v := ?v124) rfl rfl (by kernel_rfl) (by kernel_rfl) (by kernel_rfl) (Or.inl ⟨by rfl, ?y124⟩) hHeld ?r124
          case y124 => (intro w' hSw; (try dsimp only at hSw); go_simp; try with_reducible rfl)
          try simp only [Act.put, List.setIfInBounds_toArray, List.set_cons_zero, List.set_cons_succ]
          refine takeO 7 (some 90) (v := ?v125) rfl rfl (by kernel_rfl) (by kernel_rfl) (by kernel_rfl) (Or.inl ⟨by rfl, ?y125⟩) hHeld ?r125
          case y125 => (intro w' hSw; (try dsimp only at hSw); go_simp; try with_reducible rfl)
          try simp only [Act.put, List.setIfInBounds_toArray, List.set_cons_zero, List.set_cons_succ]
          refine takeO 8 (some 91) (v := ?v126) rfl rfl (by kernel_rfl) (by kernel_rfl) (by kernel_rfl) (Or.inl ⟨by rfl, ?y126⟩) hHeld ?r126
          case y126 => (intro w' hSw; (try dsimp only at hSw); go_simp; try with_reducible rfl)
          try simp only [Act.put, List.setIfInBounds_toArray, List.set_cons_zero, List.set_cons_succ]
          refine takeO 9 (some 92) (v := ?v127) rfl rfl (by kernel_rfl) (by kernel_rfl) (by kernel_rfl) (Or.inl ⟨by rfl, ?y127⟩) hHeld ?r127
          case y127 => (intro w' hSw; (try dsimp only at hSw); go_simp; try with_reducible rfl)
          try simp only [Act.put, List.setIfInBounds_toArray, List.set_cons_zero, List.set_cons_succ]
          refine wpAnyH_ready (rs := [4]) (by kernel_rfl) (by simp) ?_
          refine AllReadyH.cons rfl (fun K hK => ?_) AllReadyH.nil
          go_simp
          refine hle.mono ?_
          rintro e u1 ⟨rfl, hw⟩
          rw [hw]
          clear hw u1
          dsimp only
          refine hK.out _ _ ⟨hc1, hc2⟩ (fun hHeld => ?_)
          clear hK K hle
          refine takeO 10 (some 93) (v := ?v128) rfl rfl (by kernel_rfl) (by kernel_rfl) (by kernel_rfl) (Or.inl ⟨by rfl, ?y128⟩) hHeld ?r128
          case y128 => (intro w' hSw; (try dsimp only at hSw); go_simp; try with_reducible rfl)
          try simp only [Act.put, List.setIfInBounds_toArray, List.set_cons_zero, List.set_cons_succ]
          refine takeO 11 (some 94) (v := ?v129) rfl rfl (by kernel_rfl) (by kernel_rfl) (by kernel_rfl) (Or.inl ⟨by rfl, ?y129⟩) hHeld ?r129
          case y129 => (intro w' hSw; (try dsimp only at hSw); go_simp; try with_reducible rfl)
          try simp only [Act.put, List.setIfInBounds_toArray, List.set_cons_zero, List.set_cons_succ]
          refine takeO 12 (some 95) (v := ?v130) rfl rfl (by kernel_rfl) (by kernel_rfl) (by kernel_rfl) (Or.inl ⟨by rfl, ?y130⟩) hHeld ?r130
          case y130 => (intro w' hSw; (try dsimp only at hSw); go_simp; try with_reducible rfl)
          try simp only [Act.put, List.setIfInBounds_toArray, List.set_cons_zero, List.set_cons_succ]
          refine takeO 13 (some 96) (v := ?v131) rfl rfl (by kernel_rfl) (by kernel_rfl) (by kernel_rfl) (Or.inl ⟨by rfl, ?y131⟩) hHeld ?r131
          case y131 => (intro w' hSw; (try dsimp only at hSw); go_simp; try with_reducible rfl)
          try simp only [Act.put, List.setIfInBounds_toArray, List.set_cons_zero, List.set_cons_succ]
          refine takeO 15 (some 98) (v := ?v132) rfl rfl (by kernel_rfl) (by kernel_rfl) (by kernel_rfl) (Or.inl ⟨by rfl, ?y132⟩) hHeld ?r132
          case y132 => (intro w' hSw; (try dsimp only at hSw); go_simp; try with_reducible rfl)
          try simp only [Act.put, List.setIfInBounds_toArray, List.set_cons_zero, List.set_cons_succ]
          refine takeO 16 (some 99) (v := ?v133) rfl rfl (by kernel_rfl) (by kernel_rfl) (by kernel_rfl) (Or.inl ⟨by rfl, ?y133⟩) hHeld ?r133
          case y133 => (intro w' hSw; (try dsimp only at hSw); go_simp; try with_reducible rfl)
          try simp only [Act.put, List.setIfInBounds_toArray, List.set_cons_zero, List.set_cons_succ]
          refine takeO 17 (some 100) (v := ?v134) rfl rfl (by kernel_rfl) (by kernel_rfl) (by kernel_rfl) (Or.inl ⟨by rfl, ?y134⟩) hHeld ?r134
          case y134 => (intro w' hSw; (try dsimp only at hSw); go_simp; try with_reducible rfl)
          try simp only [Act.put, List.setIfInBounds_toArray, List.set_cons_zero, List.set_cons_succ]
          refine takeO 18 (some 101) (v := ?v135) rfl rfl (by kernel_rfl) (by kernel_rfl) (by kernel_rfl) (Or.inl ⟨by rfl, ?y135⟩) hHeld ?r135
          case y135 => (intro w' hSw; (try dsimp only at hSw); go_simp; try with_reducible rfl)
          try simp only [Act.put, List.setIfInBounds_toArray, List.set_cons_zero, List.set_cons_succ]
          refine wpAnyH_ready (rs := [14]) (by kernel_rfl) (by simp) ?_
          refine AllReadyH.cons rfl (fun K hK => ?_) AllReadyH.nil
          go_simp
          refine hlo.mono ?_
          rintro e u1 ⟨rfl, hw⟩
          rw [hw]
          clear hw u1
          dsimp only
          refine hK.out _ _ ⟨hc1, hc2⟩ (fun hHeld => ?_)
          clear hK K hlo
          refine takeO 19 (some 102) (v := ?v136) rfl rfl (by kernel_rfl) (by kernel_rfl) (by kernel_rfl) (Or.inl ⟨by rfl, ?y136⟩) hHeld ?r136
          case y136 => (intro w' hSw; (try dsimp only at hSw); go_simp; try with_reducible rfl)
          try simp only [Act.put, List.setIfInBounds_toArray, List.set_cons_zero, List.set_cons_succ]
          refine takeO 20 (some 103) (v := ?v137) rfl rfl (by kernel_rfl) (by kernel_rfl) (by kernel_rfl) (Or.inl ⟨by rfl, ?y137⟩) hHeld ?r137
          case y137 => (intro w' hSw; (try dsimp only at hSw); go_simp; try with_reducible rfl)
          try simp only [Act.put, List.setIfInBounds_toArray, List.set_cons_zero, List.set_cons_succ]
          refine wpAnyH_done (by kernel_rfl) (Only.on ?_) _
          clear hHeld hc1 hc2
          go_wp2_with fail
          go_roundw
          case rel => exact ⟨k + 1, l', xs', by go_num, by omega, by omega, by have := HXL.out; omega, by omega, HTd.out⟩
          case measure => simp [intOf]; omega
      ·
        cases xs with
        | nil =>
          have htk := hT.takeNo
          have htr := hT.refTakeNo
          have HT := hid hT
          obtain ⟨xs', hxs⟩ : ∃ xs' : List Int, [] = xs' := ⟨_, rfl⟩
          obtain ⟨l', hl'⟩ : ∃ l', l = l' := ⟨_, rfl⟩
          rw [hl', hxs] at HT
          rw [hxs] at hxl
          rw [hl'] at hlk
          clear hT hxs hl'
          go_wp2_with fail
          refine htk.mono ?_; rintro e w6 ⟨rfl, hw⟩
          rw [hw]
          clear hw w6 htk
          go_wp2_with fail
          refine htr.mono ?_; rintro e w6 ⟨rfl, hw⟩
          rw [hw]
          clear hw w6 htr
          have hTd := HT.out.drew noZ
          obtain ⟨⟨pL, qL, hc1, _⟩, hc2, _⟩ := hTd.cells
          have hle := hTd.len
          have hlo := hTd.lost
          have HTd := hid hTd
          obtain ⟨xl, hxl'⟩ : ∃ xl, xs'.length = xl := ⟨_, rfl⟩
          rw [hxl'] at hc1 hle
          have HXL := hid hxl'
          clear HT hTd hxl'
          go_wp2_with fail
          refine region_held (fun u => u.cell? ⟨r, 1, none⟩ = some (.slice pL xl qL) ∧ u.cell? ⟨r, 2, none⟩ = some (.int .i64 (l' : Nat))) 21 rfl (by kernel_rfl) ⟨hc1, hc2⟩ ?_
          intro hHeld
          refine takeO 0 (some 83) (v := ?v138) rfl rfl (by kernel_rfl) (by kernel_rfl) (by kernel_rfl) (Or.inl ⟨by rfl, ?y138⟩) hHeld ?r138
          case y138 => (intro w' hSw; (try dsimp only at hSw); go_simp; try with_reducible rfl)
          try simp only [Act.put, List.setIfInBounds_toArray, List.set_cons_zero, List.set_cons_succ]
          refine takeO 1 (some 84) (v := ?v139) rfl rfl (by kernel_rfl) (by kernel_rfl) (by kernel_rfl) (Or.inl ⟨by rfl, ?y139⟩) hHeld ?r139
          case y139 => (intro w' hSw; (try dsimp only at hSw); go_simp; try with_reducible rfl)
          try simp only [Act.put, List.setIfInBounds_toArray, List.set_cons_zero, List.set_cons_succ]
          refine takeO 2 (some 85) (v := ?v140) rfl rfl (by kernel_rfl) (by kernel_rfl) (by kernel_rfl) (Or.inl ⟨by rfl, ?y140⟩) hHeld ?r140
          case y140 => (intro w' hSw; (try dsimp only at hSw); go_simp; try with_reducible rfl)
          try simp only [Act.put, List.setIfInBounds_toArray, List.set_cons_zero, List.set_cons_succ]
          refine takeO 3 (some 86) (v := ?v141) rfl rfl (by kernel_rfl) (by kernel_rfl) (by kernel_rfl) (Or.inl ⟨by rfl, ?y141⟩) hHeld ?r141
          case y141 => (intro w' hSw; (try dsimp only at hSw); go_simp; try with_reducible rfl)
          try simp only [Act.put, List.setIfInBounds_toArray, List.set_cons_zero, List.set_cons_succ]
          refine takeO 5 (some 88) (v := ?v142) rfl rfl (by kernel_rfl) (by kernel_rfl) (by kernel_rfl) (Or.inl ⟨by rfl, ?y142⟩) hHeld ?r142
          case y142 => (intro w' hSw; (try dsimp only at hSw); go_simp; try with_reducible rfl)
          try simp only [Act.put, List.setIfInBounds_toArray, List.set_cons_zero, List.set_cons_succ]
          refine takeO 6 (some 89) (v := ?v143) rfl rfl (by kernel_rfl) (by kernel_rfl) (by kernel_rfl) (Or.inl ⟨by rfl, ?y143⟩) hHeld ?r143
          case y143 => (intro w' hSw; (try dsimp only at hSw); go_simp; try with_reducible rfl)
          try simp only [Act.put, List.setIfInBounds_toArray, List.set_cons_zero, List.set_cons_succ]
          refine takeO 7 (some 90) (v := ?v144) rfl rfl (by kernel_rfl) (by kernel_rfl) (by kernel_rfl) (Or.inl ⟨by rfl, ?y144⟩) hHeld ?r144
          case y144 => (intro w' hSw; (try dsimp only at hSw); go_simp; try with_reducible rfl)
          try simp only [Act.put, List.setIfInBounds_toArray, List.set_cons_zero, List.set_cons_succ]
          refine takeO 8 (some 91) (v := ?v145) rfl rfl (by kernel_rfl) (by kernel_rfl) (by kernel_rfl) (Or.inl ⟨by rfl, ?y145⟩) hHeld ?r145
          case y145 => (intro w' hSw; (try dsimp only at hSw); go_simp; try with_reducible rfl)
          try simp only [Act.put, List.setIfInBounds_toArray, List.set_cons_zero, List.set_cons_succ]
          refine takeO 9 (some 92) (v := ?v146) rfl rfl (by kernel_rfl) (by kernel_rfl) (by kernel_rfl) (Or.inl ⟨by rfl, ?y146⟩) hHeld ?r146
          case y146 => (intro w' hSw; (try dsimp only at hSw); go_simp; try with_reducible rfl)
          try simp only [Act.put, List.setIfInBounds_toArray, List.set_cons_zero, List.set_cons_succ]
          refine wpAnyH_ready (rs := [4]) (by kernel_rfl) (by simp) ?_
          refine AllReadyH.cons rfl (fun K hK => ?_) AllReadyH.nil
          go_simp
          refine hle.mono ?_
          rintro e u1 ⟨rfl, hw⟩
          rw [hw]
          clear hw u1
          dsimp only
          refine hK.out _ _ ⟨hc1, hc2⟩ (fun hHeld => ?_)
          clear hK K hle
          refine takeO 10 (some 93) (v := ?v147) rfl rfl (by kernel_rfl) (by kernel_rfl) (by kernel_rfl) (Or.inl ⟨by rfl, ?y147⟩) hHeld ?r147
          case y147 => (intro w' hSw; (try dsimp only at hSw); go_simp; try with_reducible rfl)
          try simp only [Act.put, List.setIfInBounds_toArray, List.set_cons_zero, List.set_cons_succ]
          refine takeO 11 (some 94) (v := ?v148) rfl rfl (by kernel_rfl) (by kernel_rfl) (by kernel_rfl) (Or.inl ⟨by rfl, ?y148⟩) hHeld ?r148
          case y148 => (intro w' hSw; (try dsimp only at hSw); go_simp; try with_reducible rfl)
          try simp only [Act.put, List.setIfInBounds_toArray, List.set_cons_zero, List.set_cons_succ]
          refine takeO 12 (some 95) (v := ?v149) rfl rfl (by kernel_rfl) (by kernel_rfl) (by kernel_rfl) (Or.inl ⟨by rfl, ?y149⟩) hHeld ?r149
          case y149 => (intro w' hSw; (try dsimp only at hSw); go_simp; try with_reducible rfl)
          try simp only [Act.put, List.setIfInBounds_toArray, List.set_cons_zero, List.set_cons_succ]
          refine takeO 13 (some 96) (v := ?v150) rfl rfl (by kernel_rfl) (by kernel_rfl) (by kernel_rfl) (Or.inl ⟨by rfl, ?y150⟩) hHeld ?r150
          case y150 => (intro w' hSw; (try dsimp only at hSw); go_simp; try with_reducible rfl)
          try simp only [Act.put, List.setIfInBounds_toArray, List.set_cons_zero, List.set_cons_succ]
          refine takeO 15 (some 98) (v := ?v151) rfl rfl (by kernel_rfl) (by kernel_rfl) (by kernel_rfl) (Or.inl ⟨by rfl, ?y151⟩) hHeld ?r151
          case y151 => (intro w' hSw; (try dsimp only at hSw); go_simp; try with_reducible rfl)
          try simp only [Act.put, List.setIfInBounds_toArray, List.set_cons_zero, List.set_cons_succ]
          refine takeO 16 (some 99) (v := ?v152) rfl rfl (by kernel_rfl) (by kernel_rfl) (by kernel_rfl) (Or.inl ⟨by rfl, ?y152⟩) hHeld ?r152
          case y152 => (intro w' hSw; (try dsimp only at hSw); go_simp; try with_reducible rfl)
          try simp only [Act.put, List.setIfInBounds_toArray, List.set_cons_zero, List.set_cons_succ]
          refine takeO 17 (some 100) (v := ?v153) rfl rfl (by kernel_rfl) (by kernel_rfl) (by kernel_rfl) (Or.inl ⟨by rfl, ?y153⟩) hHeld ?r153
          case y153 => (intro w' hSw; (try dsimp only at hSw); go_simp; try with_reducible rfl)
          try simp only [Act.put, List.setIfInBounds_toArray, List.set_cons_zero, List.set_cons_succ]
          refine takeO 18 (some 101) (v := ?v154) rfl rfl (by kernel_rfl) (by kernel_rfl) (by kernel_rfl) (Or.inl ⟨by rfl, ?y154⟩) hHeld ?r154
          case y154 => (intro w' hSw; (try dsimp only at hSw); go_simp; try with_reducible rfl)
          try simp only [Act.put, List.setIfInBounds_toArray, List.set_cons_zero, List.set_cons_succ]
          refine wpAnyH_ready (rs := [14]) (by kernel_rfl) (by simp) ?_
          refine AllReadyH.cons rfl (fun K hK => ?_) AllReadyH.nil
          go_simp
          refine hlo.mono ?_
          rintro e u1 ⟨rfl, hw⟩
          rw [hw]
          clear hw u1
          dsimp only
          refine hK.out _ _ ⟨hc1, hc2⟩ (fun hHeld => ?_)
          clear hK K hlo
          refine takeO 19 (some 102) (v := ?v155) rfl rfl (by kernel_rfl) (by kernel_rfl) (by kernel_rfl) (Or.inl ⟨by rfl, ?y155⟩) hHeld ?r155
          case y155 => (intro w' hSw; (try dsimp only at hSw); go_simp; try with_reducible rfl)
          try simp only [Act.put, List.setIfInBounds_toArray, List.set_cons_zero, List.set_cons_succ]
          refine takeO 20 (some 103) (v := ?v156) rfl rfl (by kernel_rfl) (by kernel_rfl) (by kernel_rfl) (Or.inl ⟨by rfl, ?y156⟩) hHeld ?r156
          case y156 => (intro w' hSw; (try dsimp only at hSw); go_simp; try with_reducible rfl)
          try simp only [Act.put, List.setIfInBounds_toArray, List.set_cons_zero, List.set_cons_succ]
          refine wpAnyH_done (by kernel_rfl) (Only.on ?_) _
          clear hHeld hc1 hc2
          go_wp2_with fail
          go_roundw
          case rel => exact ⟨k + 1, l', xs', by go_num, by omega, by omega, by have := HXL.out; omega, by omega, HTd.out⟩
          case measure => simp [intOf]; omega
        | cons x xs' =>
          have htk := hT.take noZ
          rw [List.length_cons] at hxl
          clear hT
          go_wp2_with fail
          refine htk.mono ?_; rintro e w6 ⟨rfl, hT⟩
          have htr := hT.refTake noZ (by omega)
          clear htk hT
          go_wp2_with fail
          refine htr.mono ?_; rintro e w6 ⟨rfl, hT⟩
          obtain ⟨l', hl'⟩ : ∃ l', l = l' := ⟨_, rfl⟩
          rw [hl'] at hT hlk
          have HT := hid hT
          clear htr hT hl'
          have hTd := HT.out.drew noZ
          obtain ⟨⟨pL, qL, hc1, _⟩, hc2, _⟩ := hTd.cells
          have hle := hTd.len
          have hlo := hTd.lost
          have HTd := hid hTd
          obtain ⟨xl, hxl'⟩ : ∃ xl, xs'.length = xl := ⟨_, rfl⟩
          rw [hxl'] at hc1 hle
          have HXL := hid hxl'
          clear HT hTd hxl'
          go_wp2_with fail
          refine region_held (fun u => u.cell? ⟨r, 1, none⟩ = some (.slice pL xl qL) ∧ u.cell? ⟨r, 2, none⟩ = some (.int .i64 (l' : Nat))) 21 rfl (by kernel_rfl) ⟨hc1, hc2⟩ ?_
          intro hHeld
          refine takeO 0 (some 83) (v := ?v157) rfl rfl (by kernel_rfl) (by kernel_rfl) (by kernel_rfl) (Or.inl ⟨by rfl, ?y157⟩) hHeld ?r157
          case y157 => (intro w' hSw; (try dsimp only at hSw); go_simp; try with_reducible rfl)
          try simp only [Act.put, List.setIfInBounds_toArray, List.set_cons_zero, List.set_cons_succ]
          refine takeO 1 (some 84) (v := ?v158) rfl rfl (by kernel_rfl) (by kernel_rfl) (by kernel_rfl) (Or.inl ⟨by rfl, ?y158⟩) hHeld ?r158
          case y158 => (intro w' hSw; (try dsimp only at hSw); go_simp; try with_reducible rfl)
          try simp only [Act.put, List.setIfInBounds_toArray, List.set_cons_zero, List.set_cons_succ]
          refine takeO 2 (some 85) (v := ?v159) rfl rfl (by kernel_rfl) (by kernel_rfl) (by kernel_rfl) (Or.inl ⟨by rfl, ?y159⟩) hHeld ?r159
          case y159 => (intro w' hSw; (try dsimp only at hSw); go_simp; try with_reducible rfl)
          try simp only [Act.put, List.setIfInBounds_toArray, List.set_cons_zero, List.set_cons_succ]
          refine takeO 3 (some 86) (v := ?v160) rfl rfl (by kernel_rfl) (by kernel_rfl) (by kernel_rfl) (Or.inl ⟨by rfl, ?y160⟩) hHeld ?r160
          case y160 => (intro w' hSw; (try dsimp only at hSw); go_simp; try with_reducible rfl)
          try simp only [Act.put, List.setIfInBounds_toArray, List.set_cons_zero, List.set_cons_succ]
          refine takeO 5 (some 88) (v := ?v161) rfl rfl (by kernel_rfl) (by kernel_rfl) (by kernel_rfl) (Or.inl ⟨by rfl, ?y161⟩) hHeld ?r161
          case y161 => (intro w' hSw; (try dsimp only at hSw); go_simp; try with_reducible rfl)
          try simp only [Act.put, List.setIfInBounds_toArray, List.set_cons_zero, List.set_cons_succ]
          refine takeO 6 (some 89) (v := ?v162) rfl rfl (by kernel_rfl) (by kernel_rfl) (by kernel_rfl) (Or.inl ⟨by rfl, ?y162⟩) hHeld ?r162
          case y162 => (intro w' hSw; (try dsimp only at hSw); go_simp; try with_reducible rfl)
          try simp only [Act.put, List.setIfInBounds_toArray, List.set_cons_zero, List.set_cons_succ]
          refine takeO 7 (some 90) (v := ?v163) rfl rfl (by kernel_rfl) (by kernel_rfl) (by kernel_rfl) (Or.inl ⟨by rfl, ?y163⟩) hHeld ?r163
          case y163 => (intro w' hSw; (try dsimp only at hSw); go_simp; try with_reducible rfl)
          try simp only [Act.put, List.setIfInBounds_toArray, List.set_cons_zero, List.set_cons_succ]
          refine takeO 8 (some 91) (v := ?v164) rfl rfl (by kernel_rfl) (by kernel_rfl) (by kernel_rfl) (Or.inl ⟨by rfl, ?y164⟩) hHeld ?r164
          case y164 => (intro w' hSw; (try dsimp only at hSw); go_simp; try with_reducible rfl)
          try simp only [Act.put, List.setIfInBounds_toArray, List.set_cons_zero, List.set_cons_succ]
          refine takeO 9 (some 92) (v := ?v165) rfl rfl (by kernel_rfl) (by kernel_rfl) (by kernel_rfl) (Or.inl ⟨by rfl, ?y165⟩) hHeld ?r165
          case y165 => (intro w' hSw; (try dsimp only at hSw); go_simp; try with_reducible rfl)
          try simp only [Act.put, List.setIfInBounds_toArray, List.set_cons_zero, List.set_cons_succ]
          refine wpAnyH_ready (rs := [4]) (by kernel_rfl) (by simp) ?_
          refine AllReadyH.cons rfl (fun K hK => ?_) AllReadyH.nil
          go_simp
          refine hle.mono ?_
          rintro e u1 ⟨rfl, hw⟩
          rw [hw]
          clear hw u1
          dsimp only
          refine hK.out _ _ ⟨hc1, hc2⟩ (fun hHeld => ?_)
          clear hK K hle
          refine takeO 10 (some 93) (v := ?v166) rfl rfl (by kernel_rfl) (by kernel_rfl) (by kernel_rfl) (Or.inl ⟨by rfl, ?y166⟩) hHeld ?r166
          case y166 => (intro w' hSw; (try dsimp only at hSw); go_simp; try with_reducible rfl)
          try simp only [Act.put, List.setIfInBounds_toArray, List.set_cons_zero, List.set_cons_succ]
          refine takeO 11 (some 94) (v := ?v167) rfl rfl (by kernel_rfl) (by kernel_rfl) (by kernel_rfl) (Or.inl ⟨by rfl, ?y167⟩) hHeld ?r167
          case y167 => (intro w' hSw; (try dsimp only at hSw); go_simp; try with_reducible rfl)
          try simp only [Act.put, List.setIfInBounds_toArray, List.set_cons_zero, List.set_cons_succ]
          refine takeO 12 (some 95) (v := ?v168) rfl rfl (by kernel_rfl) (by kernel_rfl) (by kernel_rfl) (Or.inl ⟨by rfl, ?y168⟩) hHeld ?r168
          case y168 => (intro w' hSw; (try dsimp only at hSw); go_simp; try with_reducible rfl)
          try simp only [Act.put, List.setIfInBounds_toArray, List.set_cons_zero, List.set_cons_succ]
          refine takeO 13 (some 96) (v := ?v169) rfl rfl (by kernel_rfl) (by kernel_rfl) (by kernel_rfl) (Or.inl ⟨by rfl, ?y169⟩) hHeld ?r169
          case y169 => (intro w' hSw; (try dsimp only at hSw); go_simp; try with_reducible rfl)
          try simp only [Act.put, List.setIfInBounds_toArray, List.set_cons_zero, List.set_cons_succ]
          refine takeO 15 (some 98) (v := ?v170) rfl rfl (by kernel_rfl) (by kernel_rfl) (by kernel_rfl) (Or.inl ⟨by rfl, ?y170⟩) hHeld ?r170
          case y170 => (intro w' hSw; (try dsimp only at hSw); go_simp; try with_reducible rfl)
          try simp only [Act.put, List.setIfInBounds_toArray, List.set_cons_zero, List.set_cons_succ]
          refine takeO 16 (some 99) (v := ?v171) rfl rfl (by kernel_rfl) (by kernel_rfl) (by kernel_rfl) (Or.inl ⟨by rfl, ?y171⟩) hHeld ?r171
          case y171 => (intro w' hSw; (try dsimp only at hSw); go_simp; try with_reducible rfl)
          try simp only [Act.put, List.setIfInBounds_toArray, List.set_cons_zero, List.set_cons_succ]
          refine takeO 17 (some 100) (v := ?v172) rfl rfl (by kernel_rfl) (by kernel_rfl) (by kernel_rfl) (Or.inl ⟨by rfl, ?y172⟩) hHeld ?r172
          case y172 => (intro w' hSw; (try dsimp only at hSw); go_simp; try with_reducible rfl)
          try simp only [Act.put, List.setIfInBounds_toArray, List.set_cons_zero, List.set_cons_succ]
          refine takeO 18 (some 101) (v := ?v173) rfl rfl (by kernel_rfl) (by kernel_rfl) (by kernel_rfl) (Or.inl ⟨by rfl, ?y173⟩) hHeld ?r173
          case y173 => (intro w' hSw; (try dsimp only at hSw); go_simp; try with_reducible rfl)
          try simp only [Act.put, List.setIfInBounds_toArray, List.set_cons_zero, List.set_cons_succ]
          refine wpAnyH_ready (rs := [14]) (by kernel_rfl) (by simp) ?_
          refine AllReadyH.cons rfl (fun K hK => ?_) AllReadyH.nil
          go_simp
          refine hlo.mono ?_
          rintro e u1 ⟨rfl, hw⟩
          rw [hw]
          clear hw u1
          dsimp only
          refine hK.out _ _ ⟨hc1, hc2⟩ (fun hHeld => ?_)
          clear hK K hlo
          refine takeO 19 (some 102) (v := ?v174) rfl rfl (by kernel_rfl) (by kernel_rfl) (by kernel_rfl) (Or.inl ⟨by rfl, ?y174⟩) hHeld ?r174
          case y174 => (intro w' hSw; (try dsimp only at hSw); go_simp; try with_reducible rfl)
          try simp only [Act.put, List.setIfInBounds_toArray, List.set_cons_zero, List.set_cons_succ]
          refine takeO 20 (some 103) (v := ?v175) rfl rfl (by kernel_rfl) (by kernel_rfl) (by kernel_rfl) (Or.inl ⟨by rfl, ?y175⟩) hHeld ?r175
          case y175 => (intro w' hSw; (try dsimp only at hSw); go_simp; try with_reducible rfl)
          try simp only [Act.put, List.setIfInBounds_toArray, List.set_cons_zero, List.set_cons_succ]
          refine wpAnyH_done (by kernel_rfl) (Only.on ?_) _
          clear hHeld hc1 hc2
          go_wp2_with fail
          go_roundw
          case rel => exact ⟨k + 1, l', xs', by go_num, by omega, by omega, by have := HXL.out; omega, by omega, HTd.out⟩
          case measure => simp [intOf]; omega
      · have hdr := hT.drain (by omega)
        clear hT
        go_wp2_with fail
        refine hdr.mono ?_
        rintro e u1 ⟨v, rfl, hT, _⟩
        obtain ⟨p1, q1, rfl, _⟩ := hT.row
        have hrd := hT.refDrain (rowZ _ _)
        clear hdr hT
        go_wp2_with fail
        refine hrd.mono ?_
        rintro e u2 ⟨⟨p2, q2, rfl, ha2⟩, hT⟩
        obtain ⟨p3, q3, he, ha1⟩ := hT.row
        cases he
        have hsm := sameI ha1 ha2
        have HT := hid hT
        clear hrd hT ha1 ha2
        go_wp2_with fail
        refine hsm.mono ?_
        rintro e u3 ⟨rfl, hb⟩
        have hT := (HT.out.later (rowZ _ _) hb).noRow
        obtain ⟨xs', hxs⟩ : ∃ xs' : List Int, [] = xs' := ⟨_, rfl⟩
        obtain ⟨l', hl'⟩ : ∃ l', l = l' := ⟨_, rfl⟩
        have hxn : xs'.length ≤ k + 1 := by rw [← hxs]; simp
        rw [hl', hxs] at hT
        rw [hl'] at hlk
        clear HT hxs hl' hsm hb
        have HT := hid hT
        clear hT
        have hTd := HT.out.drew noZ
        obtain ⟨⟨pL, qL, hc1, _⟩, hc2, _⟩ := hTd.cells
        have hle := hTd.len
        have hlo := hTd.lost
        have HTd := hid hTd
        obtain ⟨xl, hxl'⟩ : ∃ xl, xs'.length = xl := ⟨_, rfl⟩
        rw [hxl'] at hc1 hle
        have HXL := hid hxl'
        clear HT hTd hxl'
        go_wp2_with fail
        refine region_held (fun u => u.cell? ⟨r, 1, none⟩ = some (.slice pL xl qL) ∧ u.cell? ⟨r, 2, none⟩ = some (.int .i64 (l' : Nat))) 21 rfl (by kernel_rfl) ⟨hc1, hc2⟩ ?_
        intro hHeld
        refine takeO 0 (some 83) (v := ?v176) rfl rfl (by kernel_rfl) (by kernel_rfl) (by kernel_rfl) (Or.inl ⟨by rfl, ?y176⟩) hHeld ?r176
        case y176 => (intro w' hSw; (try dsimp only at hSw); go_simp; try with_reducible rfl)
        try simp only [Act.put, List.setIfInBounds_toArray, List.set_cons_zero, List.set_cons_succ]
        refine takeO 1 (some 84) (v := ?v177) rfl rfl (by kernel_rfl) (by kernel_rfl) (by kernel_rfl) (Or.inl ⟨by rfl, ?y177⟩) hHeld ?r177
        case y177 => (intro w' hSw; (try dsimp only at hSw); go_simp; try with_reducible rfl)
        try simp only [Act.put, List.setIfInBounds_toArray, List.set_cons_zero, List.set_cons_succ]
        refine takeO 2 (some 85) (v := ?v178) rfl rfl (by kernel_rfl) (by kernel_rfl) (by kernel_rfl) (Or.inl ⟨by rfl, ?y178⟩) hHeld ?r178
        case y178 => (intro w' hSw; (try dsimp only at hSw); go_simp; try with_reducible rfl)
        try simp only [Act.put, List.setIfInBounds_toArray, List.set_cons_zero, List.set_cons_succ]
        refine takeO 3 (some 86) (v := ?v179) rfl rfl (by kernel_rfl) (by kernel_rfl) (by kernel_rfl) (Or.inl ⟨by rfl, ?y179⟩) hHeld ?r179
        case y179 => (intro w' hSw; (try dsimp only at hSw); go_simp; try with_reducible rfl)
        try simp only [Act.put, List.setIfInBounds_toArray, List.set_cons_zero, List.set_cons_succ]
        refine takeO 5 (some 88) (v := ?v180) rfl rfl (by kernel_rfl) (by kernel_rfl) (by kernel_rfl) (Or.inl ⟨by rfl, ?y180⟩) hHeld ?r180
        case y180 => (intro w' hSw; (try dsimp only at hSw); go_simp; try with_reducible rfl)
        try simp only [Act.put, List.setIfInBounds_toArray, List.set_cons_zero, List.set_cons_succ]
        refine takeO 6 (some 89) (v := ?v181) rfl rfl (by kernel_rfl) (by kernel_rfl) (by kernel_rfl) (Or.inl ⟨by rfl, ?y181⟩) hHeld ?r181
        case y181 => (intro w' hSw; (try dsimp only at hSw); go_simp; try with_reducible rfl)
        try simp only [Act.put, List.setIfInBounds_toArray, List.set_cons_zero, List.set_cons_succ]
        refine takeO 7 (some 90) (v := ?v182) rfl rfl (by kernel_rfl) (by kernel_rfl) (by kernel_rfl) (Or.inl ⟨by rfl, ?y182⟩) hHeld ?r182
        case y182 => (intro w' hSw; (try dsimp only at hSw); go_simp; try with_reducible rfl)
        try simp only [Act.put, List.setIfInBounds_toArray, List.set_cons_zero, List.set_cons_succ]
        refine takeO 8 (some 91) (v := ?v183) rfl rfl (by kernel_rfl) (by kernel_rfl) (by kernel_rfl) (Or.inl ⟨by rfl, ?y183⟩) hHeld ?r183
        case y183 => (intro w' hSw; (try dsimp only at hSw); go_simp; try with_reducible rfl)
        try simp only [Act.put, List.setIfInBounds_toArray, List.set_cons_zero, List.set_cons_succ]
        refine takeO 9 (some 92) (v := ?v184) rfl rfl (by kernel_rfl) (by kernel_rfl) (by kernel_rfl) (Or.inl ⟨by rfl, ?y184⟩) hHeld ?r184
        case y184 => (intro w' hSw; (try dsimp only at hSw); go_simp; try with_reducible rfl)
        try simp only [Act.put, List.setIfInBounds_toArray, List.set_cons_zero, List.set_cons_succ]
        refine wpAnyH_ready (rs := [4]) (by kernel_rfl) (by simp) ?_
        refine AllReadyH.cons rfl (fun K hK => ?_) AllReadyH.nil
        go_simp
        refine hle.mono ?_
        rintro e u1 ⟨rfl, hw⟩
        rw [hw]
        clear hw u1
        dsimp only
        refine hK.out _ _ ⟨hc1, hc2⟩ (fun hHeld => ?_)
        clear hK K hle
        refine takeO 10 (some 93) (v := ?v185) rfl rfl (by kernel_rfl) (by kernel_rfl) (by kernel_rfl) (Or.inl ⟨by rfl, ?y185⟩) hHeld ?r185
        case y185 => (intro w' hSw; (try dsimp only at hSw); go_simp; try with_reducible rfl)
        try simp only [Act.put, List.setIfInBounds_toArray, List.set_cons_zero, List.set_cons_succ]
        refine takeO 11 (some 94) (v := ?v186) rfl rfl (by kernel_rfl) (by kernel_rfl) (by kernel_rfl) (Or.inl ⟨by rfl, ?y186⟩) hHeld ?r186
        case y186 => (intro w' hSw; (try dsimp only at hSw); go_simp; try with_reducible rfl)
        try simp only [Act.put, List.setIfInBounds_toArray, List.set_cons_zero, List.set_cons_succ]
        refine takeO 12 (some 95) (v := ?v187) rfl rfl (by kernel_rfl) (by kernel_rfl) (by kernel_rfl) (Or.inl ⟨by rfl, ?y187⟩) hHeld ?r187
        case y187 => (intro w' hSw; (try dsimp only at hSw); go_simp; try with_reducible rfl)
        try simp only [Act.put, List.setIfInBounds_toArray, List.set_cons_zero, List.set_cons_succ]
        refine takeO 13 (some 96) (v := ?v188) rfl rfl (by kernel_rfl) (by kernel_rfl) (by kernel_rfl) (Or.inl ⟨by rfl, ?y188⟩) hHeld ?r188
        case y188 => (intro w' hSw; (try dsimp only at hSw); go_simp; try with_reducible rfl)
        try simp only [Act.put, List.setIfInBounds_toArray, List.set_cons_zero, List.set_cons_succ]
        refine takeO 15 (some 98) (v := ?v189) rfl rfl (by kernel_rfl) (by kernel_rfl) (by kernel_rfl) (Or.inl ⟨by rfl, ?y189⟩) hHeld ?r189
        case y189 => (intro w' hSw; (try dsimp only at hSw); go_simp; try with_reducible rfl)
        try simp only [Act.put, List.setIfInBounds_toArray, List.set_cons_zero, List.set_cons_succ]
        refine takeO 16 (some 99) (v := ?v190) rfl rfl (by kernel_rfl) (by kernel_rfl) (by kernel_rfl) (Or.inl ⟨by rfl, ?y190⟩) hHeld ?r190
        case y190 => (intro w' hSw; (try dsimp only at hSw); go_simp; try with_reducible rfl)
        try simp only [Act.put, List.setIfInBounds_toArray, List.set_cons_zero, List.set_cons_succ]
        refine takeO 17 (some 100) (v := ?v191) rfl rfl (by kernel_rfl) (by kernel_rfl) (by kernel_rfl) (Or.inl ⟨by rfl, ?y191⟩) hHeld ?r191
        case y191 => (intro w' hSw; (try dsimp only at hSw); go_simp; try with_reducible rfl)
        try simp only [Act.put, List.setIfInBounds_toArray, List.set_cons_zero, List.set_cons_succ]
        refine takeO 18 (some 101) (v := ?v192) rfl rfl (by kernel_rfl) (by kernel_rfl) (by kernel_rfl) (Or.inl ⟨by rfl, ?y192⟩) hHeld ?r192
        case y192 => (intro w' hSw; (try dsimp only at hSw); go_simp; try with_reducible rfl)
        try simp only [Act.put, List.setIfInBounds_toArray, List.set_cons_zero, List.set_cons_succ]
        refine wpAnyH_ready (rs := [14]) (by kernel_rfl) (by simp) ?_
        refine AllReadyH.cons rfl (fun K hK => ?_) AllReadyH.nil
        go_simp
        refine hlo.mono ?_
        rintro e u1 ⟨rfl, hw⟩
        rw [hw]
        clear hw u1
        dsimp only
        refine hK.out _ _ ⟨hc1, hc2⟩ (fun hHeld => ?_)
        clear hK K hlo
        refine takeO 19 (some 102) (v := ?v193) rfl rfl (by kernel_rfl) (by kernel_rfl) (by kernel_rfl) (Or.inl ⟨by rfl, ?y193⟩) hHeld ?r193
        case y193 => (intro w' hSw; (try dsimp only at hSw); go_simp; try with_reducible rfl)
        try simp only [Act.put, List.setIfInBounds_toArray, List.set_cons_zero, List.set_cons_succ]
        refine takeO 20 (some 103) (v := ?v194) rfl rfl (by kernel_rfl) (by kernel_rfl) (by kernel_rfl) (Or.inl ⟨by rfl, ?y194⟩) hHeld ?r194
        case y194 => (intro w' hSw; (try dsimp only at hSw); go_simp; try with_reducible rfl)
        try simp only [Act.put, List.setIfInBounds_toArray, List.set_cons_zero, List.set_cons_succ]
        refine wpAnyH_done (by kernel_rfl) (Only.on ?_) _
        clear hHeld hc1 hc2
        go_wp2_with fail
        go_roundw
        case rel => exact ⟨k + 1, l', xs', by go_num, by omega, by omega, by have := HXL.out; omega, by omega, HTd.out⟩
        case measure => simp [intOf]; omega
      · obtain ⟨xs', hxs⟩ : ∃ xs', xs = xs' := ⟨_, rfl⟩
        obtain ⟨l', hl'⟩ : ∃ l', l = l' := ⟨_, rfl⟩
        rw [hl', hxs] at hT
        rw [hxs] at hxl
        rw [hl'] at hlk
        have HT := hid hT
        clear hT hxs hl'
        have hTd := HT.out.drew noZ
        obtain ⟨⟨pL, qL, hc1, _⟩, hc2, _⟩ := hTd.cells
        have hle := hTd.len
        have hlo := hTd.lost
        have HTd := hid hTd
        obtain ⟨xl, hxl'⟩ : ∃ xl, xs'.length = xl := ⟨_, rfl⟩
        rw [hxl'] at hc1 hle
        have HXL := hid hxl'
        clear HT hTd hxl'
        go_wp2_with fail
        refine region_held (fun u => u.cell? ⟨r, 1, none⟩ = some (.slice pL xl qL) ∧ u.cell? ⟨r, 2, none⟩ = some (.int .i64 (l' : Nat))) 21 rfl (by kernel_rfl) ⟨hc1, hc2⟩ ?_
        intro hHeld
        refine takeO 0 (some 83) (v := ?v195) rfl rfl (by kernel_rfl) (by kernel_rfl) (by kernel_rfl) (Or.inl ⟨by rfl, ?y195⟩) hHeld ?r195
        case y195 => (intro w' hSw; (try dsimp only at hSw); go_simp; try with_reducible rfl)
        try simp only [Act.put, List.setIfInBounds_toArray, List.set_cons_zero, List.set_cons_succ]
        refine takeO 1 (some 84) (v := ?v196) rfl rfl (by kernel_rfl) (by kernel_rfl) (by kernel_rfl) (Or.inl ⟨by rfl, ?y196⟩) hHeld ?r196
        case y196 => (intro w' hSw; (try dsimp only at hSw); go_simp; try with_reducible rfl)
        try simp only [Act.put, List.setIfInBounds_toArray, List.set_cons_zero, List.set_cons_succ]
        refine takeO 2 (some 85) (v := ?v197) rfl rfl (by kernel_rfl) (by kernel_rfl) (by kernel_rfl) (Or.inl ⟨by rfl, ?y197⟩) hHeld ?r197
        case y197 => (intro w' hSw; (try dsimp only at hSw); go_simp; try with_reducible rfl)
        try simp only [Act.put, List.setIfInBounds_toArray, List.set_cons_zero, List.set_cons_succ]
        refine takeO 3 (some 86) (v := ?v198) rfl rfl (by kernel_rfl) (by kernel_rfl) (by kernel_rfl) (Or.inl ⟨by rfl, ?y198⟩) hHeld ?r198
        case y198 => (intro w' hSw; (try dsimp only at hSw); go_simp; try with_reducible rfl)
        try simp only [Act.put, List.setIfInBounds_toArray, List.set_cons_zero, List.set_cons_succ]
        refine takeO 5 (some 88) (v := ?v199) rfl rfl (by kernel_rfl) (by kernel_rfl) (by kernel_rfl) (Or.inl ⟨by rfl, ?y199⟩) hHeld ?r199
        case y199 => (intro w' hSw; (try dsimp only at hSw); go_simp; try with_reducible rfl)
        try simp only [Act.put, List.setIfInBounds_toArray, List.set_cons_zero, List.set_cons_succ]
        refine takeO 6 (some 89) (v := ?v200) rfl rfl (by kernel_rfl) (by kernel_rfl) (by kernel_rfl) (Or.inl ⟨by rfl, ?y200⟩) hHeld ?r200
        case y200 => (intro w' hSw; (try dsimp only at hSw); go_simp; try with_reducible rfl)
        try simp only [Act.put, List.setIfInBounds_toArray, List.set_cons_zero, List.set_cons_succ]
        refine takeO 7 (some 90) (v := ?v201) rfl rfl (by kernel_rfl) (by kernel_rfl) (by kernel_rfl) (Or.inl ⟨by rfl, ?y201⟩) hHeld ?r201
        case y201 => (intro w' hSw; (try dsimp only at hSw); go_simp; try with_reducible rfl)
        try simp only [Act.put, List.setIfInBounds_toArray, List.set_cons_zero, List.set_cons_succ]
        refine takeO 8 (some 91) (v := ?v202) rfl rfl (by kernel_rfl) (by kernel_rfl) (by kernel_rfl) (Or.inl ⟨by rfl, ?y202⟩) hHeld ?r202
        case y202 => (intro w' hSw; (try dsimp only at hSw); go_simp; try with_reducible rfl)
        try simp only [Act.put, List.setIfInBounds_toArray, List.set_cons_zero, List.set_cons_succ]
        refine takeO 9 (some 92) (v := ?v203) rfl rfl (by kernel_rfl) (by kernel_rfl) (by kernel_rfl) (Or.inl ⟨by rfl, ?y203⟩) hHeld ?r203
        case y203 => (intro w' hSw; (try dsimp only at hSw); go_simp; try with_reducible rfl)
        try simp only [Act.put, List.setIfInBounds_toArray, List.set_cons_zero, List.set_cons_succ]
        refine wpAnyH_ready (rs := [4]) (by kernel_rfl) (by simp) ?_
        refine AllReadyH.cons rfl (fun K hK => ?_) AllReadyH.nil
        go_simp
        refine hle.mono ?_
        rintro e u1 ⟨rfl, hw⟩
        rw [hw]
        clear hw u1
        dsimp only
        refine hK.out _ _ ⟨hc1, hc2⟩ (fun hHeld => ?_)
        clear hK K hle
        refine takeO 10 (some 93) (v := ?v204) rfl rfl (by kernel_rfl) (by kernel_rfl) (by kernel_rfl) (Or.inl ⟨by rfl, ?y204⟩) hHeld ?r204
        case y204 => (intro w' hSw; (try dsimp only at hSw); go_simp; try with_reducible rfl)
        try simp only [Act.put, List.setIfInBounds_toArray, List.set_cons_zero, List.set_cons_succ]
        refine takeO 11 (some 94) (v := ?v205) rfl rfl (by kernel_rfl) (by kernel_rfl) (by kernel_rfl) (Or.inl ⟨by rfl, ?y205⟩) hHeld ?r205
        case y205 => (intro w' hSw; (try dsimp only at hSw); go_simp; try with_reducible rfl)
        try simp only [Act.put, List.setIfInBounds_toArray, List.set_cons_zero, List.set_cons_succ]
        refine takeO 12 (some 95) (v := ?v206) rfl rfl (by kernel_rfl) (by kernel_rfl) (by kernel_rfl) (Or.inl ⟨by rfl, ?y206⟩) hHeld ?r206
        case y206 => (intro w' hSw; (try dsimp only at hSw); go_simp; try with_reducible rfl)
        try simp only [Act.put, List.setIfInBounds_toArray, List.set_cons_zero, List.set_cons_succ]
        refine takeO 13 (some 96) (v := ?v207) rfl rfl (by kernel_rfl) (by kernel_rfl) (by kernel_rfl) (Or.inl ⟨by rfl, ?y207⟩) hHeld ?r207
        case y207 => (intro w' hSw; (try dsimp only at hSw); go_simp; try with_reducible rfl)
        try simp only [Act.put, List.setIfInBounds_toArray, List.set_cons_zero, List.set_cons_succ]
        refine takeO 15 (some 98) (v := ?v208) rfl rfl (by kernel_rfl) (by kernel_rfl) (by kernel_rfl) (Or.inl ⟨by rfl, ?y208⟩) hHeld ?r208
        case y208 => (intro w' hSw; (try dsimp only at hSw); go_simp; try with_reducible rfl)
        try simp only [Act.put, List.setIfInBounds_toArray, List.set_cons_zero, List.set_cons_succ]
        refine takeO 16 (some 99) (v := ?v209) rfl rfl (by kernel_rfl) (by kernel_rfl) (by kernel_rfl) (Or.inl ⟨by rfl, ?y209⟩) hHeld ?r209
        case y209 => (intro w' hSw; (try dsimp only at hSw); go_simp; try with_reducible rfl)
        try simp only [Act.put, List.setIfInBounds_toArray, List.set_cons_zero, List.set_cons_succ]
        refine takeO 17 (some 100) (v := ?v210) rfl rfl (by kernel_rfl) (by kernel_rfl) (by kernel_rfl) (Or.inl ⟨by rfl, ?y210⟩) hHeld ?r210
        case y210 => (intro w' hSw; (try dsimp only at hSw); go_simp; try with_reducible rfl)
        try simp only [Act.put, List.setIfInBounds_toArray, List.set_cons_zero, List.set_cons_succ]
        refine takeO 18 (some 101) (v := ?v211) rfl rfl (by kernel_rfl) (by kernel_rfl) (by kernel_rfl) (Or.inl ⟨by rfl, ?y211⟩) hHeld ?r211
        case y211 => (intro w' hSw; (try dsimp only at hSw); go_simp; try with_reducible rfl)
        try simp only [Act.put, List.setIfInBounds_toArray, List.set_cons_zero, List.set_cons_succ]
        refine wpAnyH_ready (rs := [14]) (by kernel_rfl) (by simp) ?_
        refine AllReadyH.cons rfl (fun K hK => ?_) AllReadyH.nil
        go_simp
        refine hlo.mono ?_
        rintro e u1 ⟨rfl, hw⟩
        rw [hw]
        clear hw u1
        dsimp only
        refine hK.out _ _ ⟨hc1, hc2⟩ (fun hHeld => ?_)
        clear hK K hlo
        refine takeO 19 (some 102) (v := ?v212) rfl rfl (by kernel_rfl) (by kernel_rfl) (by kernel_rfl) (Or.inl ⟨by rfl, ?y212⟩) hHeld ?r212
        case y212 => (intro w' hSw; (try dsimp only at hSw); go_simp; try with_reducible rfl)
        try simp only [Act.put, List.setIfInBounds_toArray, List.set_cons_zero, List.set_cons_succ]
        refine takeO 20 (some 103) (v := ?v213) rfl rfl (by kernel_rfl) (by kernel_rfl) (by kernel_rfl) (Or.inl ⟨by rfl, ?y213⟩) hHeld ?r213
        case y213 => (intro w' hSw; (try dsimp only at hSw); go_simp; try with_reducible rfl)
        try simp only [Act.put, List.setIfInBounds_toArray, List.set_cons_zero, List.set_cons_succ]
        refine wpAnyH_done (by kernel_rfl) (Only.on ?_) _
        clear hHeld hc1 hc2
        go_wp2_with fail
        go_roundw
        case rel => exact ⟨k + 1, l', xs', by go_num, by omega, by omega, by have := HXL.out; omega, by omega, HTd.out⟩
        case measure => simp [intOf]; omega
    · have hTd := hT.drew noZ
      obtain ⟨⟨pL, qL, hc1, _⟩, _⟩ := hTd.cells
      have hdr := hTd.drain (by omega)
      clear hT hTd
      by_cases hcn : k < n
      · have i1 : (k : Int) < (n : Int) := by omega
        have i2 : ¬ (k : Int) < 300 := by omega
        go_wp2_with fail
        refine region_held (fun u => u.cell? ⟨r, 1, none⟩ = some (.slice pL xs.length qL)) 16 rfl (by kernel_rfl) hc1 ?_
        intro hHeld
        refine takeO 0 (some 104) (v := ?v214) rfl rfl (by kernel_rfl) (by kernel_rfl) (by kernel_rfl) (Or.inl ⟨by rfl, ?y214⟩) hHeld ?r214
        case y214 => (intro w' hSw; (try dsimp only at hSw); go_simp; try with_reducible rfl)
        try simp only [Act.put, List.setIfInBounds_toArray, List.set_cons_zero, List.set_cons_succ]
        refine takeO 1 (some 105) (v := ?v215) rfl rfl (by kernel_rfl) (by kernel_rfl) (by kernel_rfl) (Or.inl ⟨by rfl, ?y215⟩) hHeld ?r215
        case y215 => (intro w' hSw; (try dsimp only at hSw); go_simp; try with_reducible rfl)
        try simp only [Act.put, List.setIfInBounds_toArray, List.set_cons_zero, List.set_cons_succ]
        refine takeO 2 (some 106) (v := ?v216) rfl rfl (by kernel_rfl) (by kernel_rfl) (by kernel_rfl) (Or.inl ⟨by rfl, ?y216⟩) hHeld ?r216
        case y216 => (intro w' hSw; (try dsimp only at hSw); go_simp; try with_reducible rfl)
        try simp only [Act.put, List.setIfInBounds_toArray, List.set_cons_zero, List.set_cons_succ]
        refine takeO 4 (some 108) (v := ?v217) rfl rfl (by kernel_rfl) (by kernel_rfl) (by kernel_rfl) (Or.inl ⟨by rfl, ?y217⟩) hHeld ?r217
        case y217 => (intro w' hSw; (try dsimp only at hSw); go_simp; try with_reducible rfl)
        try simp only [Act.put, List.setIfInBounds_toArray, List.set_cons_zero, List.set_cons_succ]
        refine takeO 5 (some 109) (v := ?v218) rfl rfl (by kernel_rfl) (by kernel_rfl) (by kernel_rfl) (Or.inl ⟨by rfl, ?y218⟩) hHeld ?r218
        case y218 => (intro w' hSw; (try dsimp only at hSw); go_simp; try with_reducible rfl)
        try simp only [Act.put, List.setIfInBounds_toArray, List.set_cons_zero, List.set_cons_succ]
        refine takeO 6 (some 110) (v := ?v219) rfl rfl (by kernel_rfl) (by kernel_rfl) (by kernel_rfl) (Or.inl ⟨by rfl, ?y219⟩) hHeld ?r219
        case y219 => (intro w' hSw; (try dsimp only at hSw); go_simp; try with_reducible rfl)
        try simp only [Act.put, List.setIfInBounds_toArray, List.set_cons_zero, List.set_cons_succ]
        refine takeO 7 (some 111) (v := ?v220) rfl rfl (by kernel_rfl) (by kernel_rfl) (by kernel_rfl) (Or.inl ⟨by rfl, ?y220⟩) hHeld ?r220
        case y220 => (intro w' hSw; (try dsimp only at hSw); go_simp; try with_reducible rfl)
        try simp only [Act.put, List.setIfInBounds_toArray, List.set_cons_zero, List.set_cons_succ]
        refine wpAnyH_ready (rs := [3]) (by kernel_rfl) (by simp) ?_
        refine AllReadyH.cons rfl (fun K hK => ?_) AllReadyH.nil
        go_simp
        refine hdr.mono ?_
        rintro e u1 ⟨v, rfl, hT, hce⟩
        have hc2 := (hce 1).trans hc1
        obtain ⟨p1, q1, rfl, ha1⟩ := hT.row
        obtain ⟨⟨p2, q2, hc3, ha2⟩, _⟩ := hT.cells
        rw [hc2] at hc3
        cases hc3
        have hsm := sameI ha1 ha2
        have HT := hid hT
        dsimp only
        refine hK.out _ _ hc2 (fun hHeld => ?_)
        clear hK K hdr hT ha1 ha2 hc2 hce
        refine wpAnyH_ready (rs := [8]) (by kernel_rfl) (by simp) ?_
        refine AllReadyH.cons rfl (fun K hK => ?_) AllReadyH.nil
        go_simp
        refine hsm.mono ?_
        rintro e u3 ⟨rfl, hb⟩
        dsimp only
        have hT := HT.out.later (rowZ _ _) hb
        obtain ⟨⟨p3, q3, hc4, _⟩, _⟩ := hT.cells
        have hce := HT.out.cells
        have hln := hT.len
        have HB := hid hT.below
        have hc5 : u3.cell? ⟨r, 1, none⟩ = some (.slice pL xs.length qL) := (hb.cell (p := ⟨r, 1, none⟩) hce.2.2).trans hHeld
        refine hK.out _ _ hc5 (fun hHeld => ?_)
        clear hK K hsm hT HT hb hc4 hce
        refine takeO 9 (some 113) (v := ?v221) rfl rfl (by kernel_rfl) (by kernel_rfl) (by kernel_rfl) (Or.inl ⟨by rfl, ?y221⟩) hHeld ?r221
        case y221 => (intro w' hSw; (try dsimp only at hSw); go_simp; try with_reducible rfl)
        try simp only [Act.put, List.setIfInBounds_toArray, List.set_cons_zero, List.set_cons_succ]
        refine takeO 10 (some 114) (v := ?v222) rfl rfl (by kernel_rfl) (by kernel_rfl) (by kernel_rfl) (Or.inl ⟨by rfl, ?y222⟩) hHeld ?r222
        case y222 => (intro w' hSw; (try dsimp only at hSw); go_simp; try with_reducible rfl)
        try simp only [Act.put, List.setIfInBounds_toArray, List.set_cons_zero, List.set_cons_succ]
        refine takeO 11 (some 115) (v := ?v223) rfl rfl (by kernel_rfl) (by kernel_rfl) (by kernel_rfl) (Or.inl ⟨by rfl, ?y223⟩) hHeld ?r223
        case y223 => (intro w' hSw; (try dsimp only at hSw); go_simp; try with_reducible rfl)
        try simp only [Act.put, List.setIfInBounds_toArray, List.set_cons_zero, List.set_cons_succ]
        refine wpAnyH_ready (rs := [12]) (by kernel_rfl) (by simp) ?_
        refine AllReadyH.cons rfl (fun K hK => ?_) AllReadyH.nil
        go_simp
        refine hln.mono ?_
        rintro e u1 ⟨rfl, hw⟩
        rw [hw]
        clear hw u1
        dsimp only
        refine hK.out _ _ hc5 (fun hHeld => ?_)
        clear hK K hln
        refine takeO 13 (some 117) (v := ?v224) rfl rfl (by kernel_rfl) (by kernel_rfl) (by kernel_rfl) (Or.inl ⟨by rfl, ?y224⟩) hHeld ?r224
        case y224 => (intro w' hSw; (try dsimp only at hSw); go_simp; try with_reducible rfl)
        try simp only [Act.put, List.setIfInBounds_toArray, List.set_cons_zero, List.set_cons_succ]
        refine takeO 14 (some 118) (v := ?v225) rfl rfl (by kernel_rfl) (by kernel_rfl) (by kernel_rfl) (Or.inl ⟨by rfl, ?y225⟩) hHeld ?r225
        case y225 => (intro w' hSw; (try dsimp only at hSw); go_simp; try with_reducible rfl)
        try simp only [Act.put, List.setIfInBounds_toArray, List.set_cons_zero, List.set_cons_succ]
        refine takeO 15 (some 4) (v := ?v226) rfl rfl (by kernel_rfl) (by kernel_rfl) (by kernel_rfl) (Or.inl ⟨by rfl, ?y226⟩) hHeld ?r226
        case y226 => (intro w' hSw; (try dsimp only at hSw); go_simp; try with_reducible rfl)
        try simp only [Act.put, List.setIfInBounds_toArray, List.set_cons_zero, List.set_cons_succ]
        refine wpAnyH_done (by kernel_rfl) (Only.on ?_) _
        clear hHeld
        go_wp2_with fail
        go_ret
        exact ⟨rfl, HB.out⟩
      · have i1 : ¬ (k : Int) < (n : Int) := by omega
        go_wp2_with fail
        refine region_held (fun u => u.cell? ⟨r, 1, none⟩ = some (.slice pL xs.length qL)) 16 rfl (by kernel_rfl) hc1 ?_
        intro hHeld
        refine takeO 0 (some 104) (v := ?v227) rfl rfl (by kernel_rfl) (by kernel_rfl) (by kernel_rfl) (Or.inl ⟨by rfl, ?y227⟩) hHeld ?r227
        case y227 => (intro w' hSw; (try dsimp only at hSw); go_simp; try with_reducible rfl)
        try simp only [Act.put, List.setIfInBounds_toArray, List.set_cons_zero, List.set_cons_succ]
        refine takeO 1 (some 105) (v := ?v228) rfl rfl (by kernel_rfl) (by kernel_rfl) (by kernel_rfl) (Or.inl ⟨by rfl, ?y228⟩) hHeld ?r228
        case y228 => (intro w' hSw; (try dsimp only at hSw); go_simp; try with_reducible rfl)
        try simp only [Act.put, List.setIfInBounds_toArray, List.set_cons_zero, List.set_cons_succ]
        refine takeO 2 (some 106) (v := ?v229) rfl rfl (by kernel_rfl) (by kernel_rfl) (by kernel_rfl) (Or.inl ⟨by rfl, ?y229⟩) hHeld ?r229
        case y229 => (intro w' hSw; (try dsimp only at hSw); go_simp; try with_reducible rfl)
        try simp only [Act.put, List.setIfInBounds_toArray, List.set_cons_zero, List.set_cons_succ]
        refine takeO 4 (some 108) (v := ?v230) rfl rfl (by kernel_rfl) (by kernel_rfl) (by kernel_rfl) (Or.inl ⟨by rfl, ?y230⟩) hHeld ?r230
        case y230 => (intro w' hSw; (try dsimp only at hSw); go_simp; try with_reducible rfl)
        try simp only [Act.put, List.setIfInBounds_toArray, List.set_cons_zero, List.set_cons_succ]
        refine takeO 5 (some 109) (v := ?v231) rfl rfl (by kernel_rfl) (by kernel_rfl) (by kernel_rfl) (Or.inl ⟨by rfl, ?y231⟩) hHeld ?r231
        case y231 => (intro w' hSw; (try dsimp only at hSw); go_simp; try with_reducible rfl)
        try simp only [Act.put, List.setIfInBounds_toArray, List.set_cons_zero, List.set_cons_succ]
        refine takeO 6 (some 110) (v := ?v232) rfl rfl (by kernel_rfl) (by kernel_rfl) (by kernel_rfl) (Or.inl ⟨by rfl, ?y232⟩) hHeld ?r232
        case y232 => (intro w' hSw; (try dsimp only at hSw); go_simp; try with_reducible rfl)
        try simp only [Act.put, List.setIfInBounds_toArray, List.set_cons_zero, List.set_cons_succ]
        refine takeO 7 (some 111) (v := ?v233) rfl rfl (by kernel_rfl) (by kernel_rfl) (by kernel_rfl) (Or.inl ⟨by rfl, ?y233⟩) hHeld ?r233
        case y233 => (intro w' hSw; (try dsimp only at hSw); go_simp; try with_reducible rfl)
        try simp only [Act.put, List.setIfInBounds_toArray, List.set_cons_zero, List.set_cons_succ]
        refine wpAnyH_ready (rs := [3]) (by kernel_rfl) (by simp) ?_
        refine AllReadyH.cons rfl (fun K hK => ?_) AllReadyH.nil
        go_simp
        refine hdr.mono ?_
        rintro e u1 ⟨v, rfl, hT, hce⟩
        have hc2 := (hce 1).trans hc1
        obtain ⟨p1, q1, rfl, ha1⟩ := hT.row
        obtain ⟨⟨p2, q2, hc3, ha2⟩, _⟩ := hT.cells
        rw [hc2] at hc3
        cases hc3
        have hsm := sameI ha1 ha2
        have HT := hid hT
        dsimp only
        refine hK.out _ _ hc2 (fun hHeld => ?_)
        clear hK K hdr hT ha1 ha2 hc2 hce
        refine wpAnyH_ready (rs := [8]) (by kernel_rfl) (by simp) ?_
        refine AllReadyH.cons rfl (fun K hK => ?_) AllReadyH.nil
        go_simp
        refine hsm.mono ?_
        rintro e u3 ⟨rfl, hb⟩
        dsimp only
        have hT := HT.out.later (rowZ _ _) hb
        obtain ⟨⟨p3, q3, hc4, _⟩, _⟩ := hT.cells
        have hce := HT.out.cells
        have hln := hT.len
        have HB := hid hT.below
        have hc5 : u3.cell? ⟨r, 1, none⟩ = some (.slice pL xs.length qL) := (hb.cell (p := ⟨r, 1, none⟩) hce.2.2).trans hHeld
        refine hK.out _ _ hc5 (fun hHeld => ?_)
        clear hK K hsm hT HT hb hc4 hce
        refine takeO 9 (some 113) (v := ?v234) rfl rfl (by kernel_rfl) (by kernel_rfl) (by kernel_rfl) (Or.inl ⟨by rfl, ?y234⟩) hHeld ?r234
        case y234 => (intro w' hSw; (try dsimp only at hSw); go_simp; try with_reducible rfl)
        try simp only [Act.put, List.setIfInBounds_toArray, List.set_cons_zero, List.set_cons_succ]
        refine takeO 10 (some 114) (v := ?v235) rfl rfl (by kernel_rfl) (by kernel_rfl) (by kernel_rfl) (Or.inl ⟨by rfl, ?y235⟩) hHeld ?r235
        case y235 => (intro w' hSw; (try dsimp only at hSw); go_simp; try with_reducible rfl)
        try simp only [Act.put, List.setIfInBounds_toArray, List.set_cons_zero, List.set_cons_succ]
        refine takeO 11 (some 115) (v := ?v236) rfl rfl (by kernel_rfl) (by kernel_rfl) (by kernel_rfl) (Or.inl ⟨by rfl, ?y236⟩) hHeld ?r236
        case y236 => (intro w' hSw; (try dsimp only at hSw); go_simp; try with_reducible rfl)
        try simp only [Act.put, List.setIfInBounds_toArray, List.set_cons_zero, List.set_cons_succ]
        refine wpAnyH_ready (rs := [12]) (by kernel_rfl) (by simp) ?_
        refine AllReadyH.cons rfl (fun K hK => ?_) AllReadyH.nil
        go_simp
        refine hln.mono ?_
        rintro e u1 ⟨rfl, hw⟩
        rw [hw]
        clear hw u1
        dsimp only
        refine hK.out _ _ hc5 (fun hHeld => ?_)
        clear hK K hln
        refine takeO 13 (some 117) (v := ?v237) rfl rfl (by kernel_rfl) (by kernel_rfl) (by kernel_rfl) (Or.inl ⟨by rfl, ?y237⟩) hHeld ?r237
        case y237 => (intro w' hSw; (try dsimp only at hSw); go_simp; try with_reducible rfl)
        try simp only [Act.put, List.setIfInBounds_toArray, List.set_cons_zero, List.set_cons_succ]
        refine takeO 14 (some 118) (v := ?v238) rfl rfl (by kernel_rfl) (by kernel_rfl) (by kernel_rfl) (Or.inl ⟨by rfl, ?y238⟩) hHeld ?r238
        case y238 => (intro w' hSw; (try dsimp only at hSw); go_simp; try with_reducible rfl)
        try simp only [Act.put, List.setIfInBounds_toArray, List.set_cons_zero, List.set_cons_succ]
        refine takeO 15 (some 4) (v := ?v239) rfl rfl (by kernel_rfl) (by kernel_rfl) (by kernel_rfl) (Or.inl ⟨by rfl, ?y239⟩) hHeld ?r239
        case y239 => (intro w' hSw; (try dsimp only at hSw); go_simp; try with_reducible rfl)
        try simp only [Act.put, List.setIfInBounds_toArray, List.set_cons_zero, List.set_cons_succ]
        refine wpAnyH_done (by kernel_rfl) (Only.on ?_) _
        clear hHeld
        go_wp2_with fail
        go_ret
        exact ⟨rfl, HB.out⟩
end Go.Proofs.Ytllojhhplfdgkaa
