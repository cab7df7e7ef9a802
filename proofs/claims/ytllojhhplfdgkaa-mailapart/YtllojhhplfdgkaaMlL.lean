/- Layer 7 (mail): the walk of the law MailApart. -/
import Derived.Test.YtllojhhplfdgkaaMlK
namespace Go.Proofs.Ytllojhhplfdgkaa
open Go.Conc Go.RowKit Go.Shelf
set_option linter.unusedVariables false
set_option linter.unusedSimpArgs false
attribute [local go_sem ↓] Go.wp_at_zero Go.wp_at_succ

/-- The other box is another one, of whatever it has by now. -/
def SomeBox (d e cap n : Nat) (w : World) (S : Nat → Prop) : Prop := ∃ zs l, l ≤ n ∧ MBI w S d e cap zs l
theorem someBox (d e cap n : Nat) : Lies (SomeBox d e cap n) := ⟨fun ⟨zs, l, hl, h⟩ hf hd => ⟨zs, l, hl, MBox.keep h hf hd⟩, fun ⟨zs, l, hl, h⟩ => MBox.lt h⟩
theorem TP.other {w0 w : World} {b c r cap l m d e cap2 n : Nat} {xs ys : List Int} (h : TP (SomeBox d e cap2 n) w0 w b c r cap xs l ys m) (hn : n ≤ 1000) (x : Int) :
    Calls Try.prog 10 #[.pointer (some ⟨d, 0, none⟩), .int .i64 x] w fun e' w' => (∃ o, e' = .returned (.bool o)) ∧ TP (SomeBox d e cap2 (n + 1)) w0 w' b c r cap xs l ys m := by
  refine h.third (someBox d e cap2 n) (Z' := SomeBox d e cap2 (n + 1)) (R := fun e' => ∃ o, e' = .returned (.bool o)) ?_
  rintro S3 ⟨zs, l, hl, hb⟩
  refine (putI hb x (by omega)).mono ?_
  rintro e' w' ⟨rfl, S', h', hf, hs⟩
  refine ⟨⟨_, rfl⟩, S', ⟨_, _, ?_, h'⟩, hf, hs⟩
  split <;> omega
theorem TP.later {Z : World → (Nat → Prop) → Prop} {w0 w w' : World} {b c r cap l m : Nat} {xs ys : List Int} (hZ : Lies Z) (h : TP Z w0 w b c r cap xs l ys m) (hb : Below w.heap.size w w') : TP Z w0 w' b c r cap xs l ys m := by
  obtain ⟨S, S2, S3, h1, h2, h3, d1, d2, d3, f1, f2, f3⟩ := h.own
  exact ⟨⟨S, S2, S3, MBox.below h1 hb, h2.below hb, hZ.keep (S' := fun _ => False) h3 (Fr.of_below _ hb) (fun _ _ e => e), d1, d2, d3, f1, f2, f3⟩, h.below.trans (hb.mono h.below.size)⟩
theorem TP.drew {Z : World → (Nat → Prop) → Prop} {w0 w : World} {b c r cap l m : Nat} {xs ys : List Int} (hZ : Lies Z) (h : TP Z w0 w b c r cap xs l ys m) : TP Z w0 w.drew b c r cap xs l ys m := h.later hZ (below_drewN w 1)
theorem start3 {w0 w : World} (b1 : Below w0.heap.size w0 w) {m m2 : Int} {R R2 : Nat} (hR : room m = R) (hR2 : room m2 = R2) :
    Calls Try.prog 8 #[.int .i64 m] w fun e w1 => ∃ b c, e = .returned (.pointer (some ⟨b, 0, none⟩)) ∧ Below w0.heap.size w0 w1 ∧
      Calls Try.prog 8 #[.int .i64 m2] w1 fun e w2 => ∃ d f, e = .returned (.pointer (some ⟨d, 0, none⟩)) ∧ Below w0.heap.size w0 w2 ∧
        Calls Try.prog 9 #[.int .i64 m] w2 fun e w3 => ∃ r, e = .returned (.pointer (some ⟨r, 0, none⟩)) ∧ TP (SomeBox d f R2 0) w0 w3 b c r R [] 0 [] 0 := by
  have s1 := b1.size
  refine (newI_at m w).mono ?_
  rintro e w1 ⟨rfl, h1, b2⟩
  have s2 := b2.size
  have e1 := h1.lt
  rw [hR] at h1
  have bb1 := b1.trans (b2.mono s1)
  refine ⟨w.heap.size + 1, w.heap.size, rfl, bb1, ?_⟩
  refine (newI_at m2 w1).mono ?_
  rintro e w2 ⟨rfl, h2, b3⟩
  have s3 := b3.size
  have e2 := h2.lt
  rw [hR2] at h2
  have bb2 := bb1.trans (b3.mono (by omega))
  refine ⟨w1.heap.size + 1, w1.heap.size, rfl, bb2, ?_⟩
  refine (refNewAt m w2).mono ?_
  rintro e w3 ⟨rfl, h3, b4⟩
  rw [hR] at h3
  have h1' := MBox.below (MBox.below h1 b3) b4
  have h2' := MBox.below h2 b4
  refine ⟨_, rfl, ⟨⟨_, _, _, h1', h3, ⟨[], 0, Nat.zero_le _, h2'⟩, ⟨fun k hk e => ?_⟩, ⟨fun k hk e => ?_⟩, ⟨fun k hk e => ?_⟩, ⟨fun k hk => ?_⟩, ⟨fun k hk => ?_⟩, ⟨fun k hk => ?_⟩⟩, bb2.trans (b4.mono (by omega))⟩⟩
  · have := e1 k hk; omega
  · have := e1 k hk; omega
  · have := e2 k e; omega
  · omega
  · omega
  · omega
set_option maxRecDepth 100000 in
set_option maxHeartbeats 4000000 in
theorem mailApart_walk (m m2 : Int) (p : Option Addr) (n cap : Nat) (K N : Nat → Int) (w : World) (hm : (Lit.int .i64 m).wf = true) (hm2 : (Lit.int .i64 m2).wf = true) (h : ArgO w p n cap K N) :
    Calls Try.prog 5 #[.int .i64 m, .int .i64 m2, .slice p n cap] w fun e w' => e = .returned (.bool true) ∧ Below w.heap.size w w' := by
  have hle := h.le; have hmost := h.most
  unfold maxLen at hmost
  obtain ⟨R, hR⟩ : ∃ R, room m = R := ⟨_, rfl⟩
  obtain ⟨R2, hR2⟩ : ∃ R2, room m2 = R2 := ⟨_, rfl⟩
  have hR1 := room_pos m
  rw [hR] at hR1
  have HA := hid h
  have hsh := shown7 w
  clear h hm hm2
  go_enter Try.func5, Try.ntmps5
  go_wp2_with fail
  refine hsh.mono ?_; rintro e w1 ⟨rfl, b1⟩
  have hn := start3 b1 hR hR2
  clear hsh b1
  go_wp2_with fail
  refine hn.mono ?_; rintro e w2 ⟨b, c, rfl, _, hn2⟩
  clear hn
  go_wp2_with fail
  refine hn2.mono ?_; rintro e w3 ⟨d, f, rfl, _, hn3⟩
  clear hn2
  go_wp2_with fail
  refine hn3.mono ?_; rintro e w4 ⟨r, rfl, hT⟩
  have HT := hid hT
  clear hn3 hT
  go_wp2_with fail
  go_loopw [11] (fun i wr => ∃ (k l : Nat) (xs : List Int), i = .int .i64 (k : Int) ∧ k ≤ n ∧ k ≤ 100 ∧ xs.length ≤ k ∧ l ≤ k ∧ TP (SomeBox d f R2 k) w wr b c r R xs l xs l) (fun i _ => 100 - (intOf i).toNat)
  case atStart => exact ⟨0, 0, [], rfl, Nat.zero_le _, Nat.zero_le _, Nat.zero_le _, Nat.zero_le _, HT.out⟩
  case round =>
    obtain ⟨k, l, xs, rfl, hkn, hk1, hxl, hlk, hT⟩ := hrel
    clear HT
    by_cases hlt : k < n ∧ k < 100
    · have i1 : (k : Int) < (n : Int) := by omega
      have i2 : (k : Int) < 100 := by omega
      have hp := hT.other (by omega) (k : Int)
      clear hT
      go_wp2_with fail
      refine hp.mono ?_; rintro e w5 ⟨⟨o, rfl⟩, hT⟩
      obtain ⟨g1, o1, rfl, hg1, hc1⟩ := (HA.out.keep hT.below).at hlt.1
      obtain ⟨c1, c2⟩ := hc1 k hlt.1
      by_cases hk3 : K k < 3
      · have hcN : ∀ u, Below w.heap.size w u → u.cell? ⟨g1, o1 + k * 2 + 1, none⟩ = some (.int .i64 (N k)) := fun u hu => by
          obtain ⟨g2, o2, he, _, hc⟩ := (HA.out.keep hu).at hlt.1
          cases he
          exact (hc k hlt.1).2
        have hTd := hT.drew (someBox _ _ _ _)
        have HB := hid hTd.below
        have hpu := hTd.put (someBox _ _ _ _) (N k) (by omega)
        clear hp hc1 hT hTd
        go_wp2_with fail
        refine region_held (fun u => Below w.heap.size w u) 15 rfl (by kernel_rfl) HB.out ?_
        intro hHeld
        refine takeO 0 (some 48) (v := ?v1) rfl rfl (by kernel_rfl) (by kernel_rfl) (by kernel_rfl) (Or.inl ⟨by rfl, ?y1⟩) hHeld ?r1
        case y1 => (intro w' hSw; (try dsimp only at hSw); go_simp; try with_reducible rfl)
        try simp only [Act.put, List.setIfInBounds_toArray, List.set_cons_zero, List.set_cons_succ]
        refine takeO 1 (some 49) (v := ?v2) rfl rfl (by kernel_rfl) (by kernel_rfl) (by kernel_rfl) (Or.inl ⟨by rfl, ?y2⟩) hHeld ?r2
        case y2 => (intro w' hSw; (try dsimp only at hSw); go_simp; try with_reducible rfl)
        try simp only [Act.put, List.setIfInBounds_toArray, List.set_cons_zero, List.set_cons_succ]
        refine takeO 2 (some 50) (v := ?v3) rfl rfl (by kernel_rfl) (by kernel_rfl) (by kernel_rfl) (Or.inl ⟨by rfl, ?y3⟩) hHeld ?r3
        case y3 => (intro w' hSw; (try dsimp only at hSw); go_simp; try with_reducible rfl)
        try simp only [Act.put, List.setIfInBounds_toArray, List.set_cons_zero, List.set_cons_succ]
        refine takeO 3 (some 51) (v := ?v4) rfl rfl (by kernel_rfl) (by kernel_rfl) (by kernel_rfl) (Or.inl ⟨by rfl, ?y4⟩) hHeld ?r4
        case y4 => (intro w' hSw; (try dsimp only at hSw); go_simp; try with_reducible rfl)
        try simp only [Act.put, List.setIfInBounds_toArray, List.set_cons_zero, List.set_cons_succ]
        refine takeO 4 (some 52) (v := ?v5) rfl rfl (by kernel_rfl) (by kernel_rfl) (by kernel_rfl) (Or.inl ⟨by rfl, ?y5⟩) hHeld ?r5
        case y5 => (intro w' hSw; (try dsimp only at hSw); go_simp; try with_reducible rfl)
        try simp only [Act.put, List.setIfInBounds_toArray, List.set_cons_zero, List.set_cons_succ]
        refine takeO 5 (some 53) (v := ?v6) rfl rfl (by kernel_rfl) (by kernel_rfl) (by kernel_rfl) (Or.inl ⟨by rfl, ?y6⟩) hHeld ?r6
        case y6 => (intro w' hSw; (try dsimp only at hSw); go_simp; try with_reducible rfl)
        try simp only [Act.put, List.setIfInBounds_toArray, List.set_cons_zero, List.set_cons_succ]
        refine takeO 7 (some 55) (v := ?v7) rfl rfl (by kernel_rfl) (by kernel_rfl) (by kernel_rfl) (Or.inl ⟨by rfl, ?y7⟩) hHeld ?r7
        case y7 => (intro w' hSw; (try dsimp only at hSw); go_simp; try with_reducible rfl)
        try simp only [Act.put, List.setIfInBounds_toArray, List.set_cons_zero, List.set_cons_succ]
        refine takeO 8 (some 56) (v := ?v8) rfl rfl (by kernel_rfl) (by kernel_rfl) (by kernel_rfl) (Or.inl ⟨by rfl, ?y8⟩) hHeld ?r8
        case y8 => (intro w' hSw; (try dsimp only at hSw); go_simp; try with_reducible rfl)
        try simp only [Act.put, List.setIfInBounds_toArray, List.set_cons_zero, List.set_cons_succ]
        refine takeO 9 (some 57) (v := ?v9) rfl rfl (by kernel_rfl) (by kernel_rfl) (by kernel_rfl) (Or.inl ⟨by rfl, ?y9⟩) hHeld ?r9
        case y9 => (intro w' hSw; (try dsimp only at hSw); go_simp; try with_reducible rfl)
        try simp only [Act.put, List.setIfInBounds_toArray, List.set_cons_zero, List.set_cons_succ]
        refine takeO 10 (some 58) (v := ?v10) rfl rfl (by kernel_rfl) (by kernel_rfl) (by kernel_rfl) (Or.inl ⟨by rfl, ?y10⟩) hHeld ?r10
        case y10 => (intro w' hSw; (try dsimp only at hSw); go_simp; try with_reducible rfl)
        try simp only [Act.put, List.setIfInBounds_toArray, List.set_cons_zero, List.set_cons_succ]
        refine takeO 11 (some 59) (v := ?v11) rfl rfl (by kernel_rfl) (by kernel_rfl) (by kernel_rfl) (Or.inl ⟨by rfl, ?y11⟩) hHeld ?r11
        case y11 => (intro w' hSw; (try dsimp only at hSw); go_simp; try with_reducible rfl)
        try simp only [Act.put, List.setIfInBounds_toArray, List.set_cons_zero, List.set_cons_succ]
        refine takeO 12 (some 60) (v := ?v12) rfl rfl (by kernel_rfl) (by kernel_rfl) (by kernel_rfl) (Or.inl ⟨by rfl, ?y12⟩) hHeld ?r12
        case y12 => (intro w' hSw; (try dsimp only at hSw); go_simp; try with_reducible rfl)
        try simp only [Act.put, List.setIfInBounds_toArray, List.set_cons_zero, List.set_cons_succ]
        refine wpAnyH_ready (rs := [6]) (by kernel_rfl) (by simp) ?_
        refine AllReadyH.cons rfl (fun K hK => ?_) AllReadyH.nil
        go_simp
        refine hpu.mono ?_
        rintro e u1 ⟨rfl, hT⟩
        dsimp only
        have hrp := hT.refPut (someBox _ _ _ _) (N k) (by omega) (by omega)
        refine hK.out _ _ hT.below (fun hHeld => ?_)
        clear hK K hpu hT HB
        refine wpAnyH_ready (rs := [13]) (by kernel_rfl) (by simp) ?_
        refine AllReadyH.cons rfl (fun K hK => ?_) AllReadyH.nil
        go_simp
        refine hrp.mono ?_
        rintro e u2 ⟨rfl, hT⟩
        dsimp only
        have HT := hid hT
        refine hK.out _ _ hT.below (fun hHeld => ?_)
        clear hK K hrp hT
        refine takeO 14 (some 62) (v := ?v13) rfl rfl (by kernel_rfl) (by kernel_rfl) (by kernel_rfl) (Or.inl ⟨by rfl, ?y13⟩) hHeld ?r13
        case y13 => (intro w' hSw; (try dsimp only at hSw); go_simp; try with_reducible rfl)
        try simp only [Act.put, List.setIfInBounds_toArray, List.set_cons_zero, List.set_cons_succ]
        refine wpAnyH_done (by kernel_rfl) (Only.on ?_) _
        clear hHeld hcN
        by_cases hr : xs.length < R
        ·
          have HT2 := HT.out
          simp only [hr, if_true, if_false] at HT2
          have HT3 := hid HT2
          clear HT HT2
          go_wp2_with fail
          go_roundw
          case rel => exact ⟨k + 1, l, xs ++ [N k], by go_num, by omega, by omega, by simp; omega, by omega, HT3.out⟩
          case measure => simp [intOf]; omega
        ·
          have HT2 := HT.out
          simp only [hr, if_true, if_false] at HT2
          have HT3 := hid HT2
          clear HT HT2
          go_wp2_with fail
          go_roundw
          case rel => exact ⟨k + 1, l + 1, xs, by go_num, by omega, by omega, by omega, by omega, HT3.out⟩
          case measure => simp [intOf]; omega
      · cases xs with
        | nil =>
          have htk := hT.takeNo
          have htr := hT.refTakeNo
          have HT := hid hT
          clear hp hc1 hT
          go_wp2_with fail
          refine htk.mono ?_; rintro e w6 ⟨rfl, hw⟩
          rw [hw]
          clear hw w6 htk
          go_wp2_with fail
          refine htr.mono ?_; rintro e w6 ⟨rfl, hw⟩
          rw [hw]
          clear hw w6 htr
          go_wp2_with fail
          go_roundw
          case rel => exact ⟨k + 1, l, [], by go_num, by omega, by omega, Nat.zero_le _, by omega, HT.out⟩
          case measure => simp [intOf]; omega
        | cons x xs =>
          have htk := hT.take (someBox _ _ _ _)
          rw [List.length_cons] at hxl
          clear hp hc1 hT
          go_wp2_with fail
          refine htk.mono ?_; rintro e w6 ⟨rfl, hT⟩
          have htr := hT.refTake (someBox _ _ _ _) (by omega)
          clear htk hT
          go_wp2_with fail
          refine htr.mono ?_; rintro e w6 ⟨rfl, hT⟩
          have HT := hid hT
          clear htr hT
          go_wp2_with fail
          go_roundw
          case rel => exact ⟨k + 1, l, xs, by go_num, by omega, by omega, by omega, by omega, HT.out⟩
          case measure => simp [intOf]; omega
    · have hTd := hT.drew (someBox _ _ _ _)
      have hc2 := hTd.cells.2.1
      have hlo := hTd.lost
      have hdr := hTd.drain (by omega)
      clear hT hTd
      by_cases hcn : k < n
      · have i1 : (k : Int) < (n : Int) := by omega
        have i2 : ¬ (k : Int) < 100 := by omega
        go_wp2_with fail
        refine region_held (fun u => u.cell? ⟨r, 2, none⟩ = some (.int .i64 (l : Nat))) 18 rfl (by kernel_rfl) hc2 ?_
        intro hHeld
        refine takeO 0 (some 81) (v := ?v14) rfl rfl (by kernel_rfl) (by kernel_rfl) (by kernel_rfl) (Or.inl ⟨by rfl, ?y14⟩) hHeld ?r14
        case y14 => (intro w' hSw; (try dsimp only at hSw); go_simp; try with_reducible rfl)
        try simp only [Act.put, List.setIfInBounds_toArray, List.set_cons_zero, List.set_cons_succ]
        refine takeO 1 (some 82) (v := ?v15) rfl rfl (by kernel_rfl) (by kernel_rfl) (by kernel_rfl) (Or.inl ⟨by rfl, ?y15⟩) hHeld ?r15
        case y15 => (intro w' hSw; (try dsimp only at hSw); go_simp; try with_reducible rfl)
        try simp only [Act.put, List.setIfInBounds_toArray, List.set_cons_zero, List.set_cons_succ]
        refine takeO 2 (some 83) (v := ?v16) rfl rfl (by kernel_rfl) (by kernel_rfl) (by kernel_rfl) (Or.inl ⟨by rfl, ?y16⟩) hHeld ?r16
        case y16 => (intro w' hSw; (try dsimp only at hSw); go_simp; try with_reducible rfl)
        try simp only [Act.put, List.setIfInBounds_toArray, List.set_cons_zero, List.set_cons_succ]
        refine takeO 4 (some 85) (v := ?v17) rfl rfl (by kernel_rfl) (by kernel_rfl) (by kernel_rfl) (Or.inl ⟨by rfl, ?y17⟩) hHeld ?r17
        case y17 => (intro w' hSw; (try dsimp only at hSw); go_simp; try with_reducible rfl)
        try simp only [Act.put, List.setIfInBounds_toArray, List.set_cons_zero, List.set_cons_succ]
        refine takeO 5 (some 86) (v := ?v18) rfl rfl (by kernel_rfl) (by kernel_rfl) (by kernel_rfl) (Or.inl ⟨by rfl, ?y18⟩) hHeld ?r18
        case y18 => (intro w' hSw; (try dsimp only at hSw); go_simp; try with_reducible rfl)
        try simp only [Act.put, List.setIfInBounds_toArray, List.set_cons_zero, List.set_cons_succ]
        refine takeO 6 (some 87) (v := ?v19) rfl rfl (by kernel_rfl) (by kernel_rfl) (by kernel_rfl) (Or.inl ⟨by rfl, ?y19⟩) hHeld ?r19
        case y19 => (intro w' hSw; (try dsimp only at hSw); go_simp; try with_reducible rfl)
        try simp only [Act.put, List.setIfInBounds_toArray, List.set_cons_zero, List.set_cons_succ]
        refine takeO 7 (some 88) (v := ?v20) rfl rfl (by kernel_rfl) (by kernel_rfl) (by kernel_rfl) (Or.inl ⟨by rfl, ?y20⟩) hHeld ?r20
        case y20 => (intro w' hSw; (try dsimp only at hSw); go_simp; try with_reducible rfl)
        try simp only [Act.put, List.setIfInBounds_toArray, List.set_cons_zero, List.set_cons_succ]
        refine wpAnyH_ready (rs := [3]) (by kernel_rfl) (by simp) ?_
        refine AllReadyH.cons rfl (fun K hK => ?_) AllReadyH.nil
        go_simp
        refine hlo.mono ?_
        rintro e u1 ⟨rfl, hw⟩
        rw [hw]
        clear hw u1
        dsimp only
        refine hK.out _ _ hc2 (fun hHeld => ?_)
        clear hK K hlo
        refine takeO 8 (some 89) (v := ?v21) rfl rfl (by kernel_rfl) (by kernel_rfl) (by kernel_rfl) (Or.inl ⟨by rfl, ?y21⟩) hHeld ?r21
        case y21 => (intro w' hSw; (try dsimp only at hSw); go_simp; try with_reducible rfl)
        try simp only [Act.put, List.setIfInBounds_toArray, List.set_cons_zero, List.set_cons_succ]
        refine takeO 9 (some 90) (v := ?v22) rfl rfl (by kernel_rfl) (by kernel_rfl) (by kernel_rfl) (Or.inl ⟨by rfl, ?y22⟩) hHeld ?r22
        case y22 => (intro w' hSw; (try dsimp only at hSw); go_simp; try with_reducible rfl)
        try simp only [Act.put, List.setIfInBounds_toArray, List.set_cons_zero, List.set_cons_succ]
        refine takeO 10 (some 91) (v := ?v23) rfl rfl (by kernel_rfl) (by kernel_rfl) (by kernel_rfl) (Or.inl ⟨by rfl, ?y23⟩) hHeld ?r23
        case y23 => (intro w' hSw; (try dsimp only at hSw); go_simp; try with_reducible rfl)
        try simp only [Act.put, List.setIfInBounds_toArray, List.set_cons_zero, List.set_cons_succ]
        refine takeO 11 (some 92) (v := ?v24) rfl rfl (by kernel_rfl) (by kernel_rfl) (by kernel_rfl) (Or.inl ⟨by rfl, ?y24⟩) hHeld ?r24
        case y24 => (intro w' hSw; (try dsimp only at hSw); go_simp; try with_reducible rfl)
        try simp only [Act.put, List.setIfInBounds_toArray, List.set_cons_zero, List.set_cons_succ]
        refine takeO 13 (some 94) (v := ?v25) rfl rfl (by kernel_rfl) (by kernel_rfl) (by kernel_rfl) (Or.inl ⟨by rfl, ?y25⟩) hHeld ?r25
        case y25 => (intro w' hSw; (try dsimp only at hSw); go_simp; try with_reducible rfl)
        try simp only [Act.put, List.setIfInBounds_toArray, List.set_cons_zero, List.set_cons_succ]
        refine wpAnyH_ready (rs := [12]) (by kernel_rfl) (by simp) ?_
        refine AllReadyH.cons rfl (fun K hK => ?_) AllReadyH.nil
        go_simp
        refine hdr.mono ?_
        rintro e u1 ⟨v, rfl, hT, _⟩
        obtain ⟨p1, q1, rfl, ha⟩ := hT.row
        dsimp only
        have hrd := hT.refDrain (rowZ _ _)
        refine hK.out _ _ hT.cells.2.1 (fun hHeld => ?_)
        clear hK K hdr hT ha
        refine wpAnyH_ready (rs := [14]) (by kernel_rfl) (by simp) ?_
        refine AllReadyH.cons rfl (fun K hK => ?_) AllReadyH.nil
        go_simp
        refine hrd.mono ?_
        rintro e u2 ⟨⟨p2, q2, rfl, ha2⟩, hT⟩
        dsimp only
        obtain ⟨p3, q3, he, ha1⟩ := hT.row
        cases he
        have hsm := sameI ha1 ha2
        have HT := hid hT
        refine hK.out _ _ hT.cells.2.1 (fun hHeld => ?_)
        clear hK K hrd hT ha1 ha2
        refine wpAnyH_ready (rs := [15]) (by kernel_rfl) (by simp) ?_
        refine AllReadyH.cons rfl (fun K hK => ?_) AllReadyH.nil
        go_simp
        refine hsm.mono ?_
        rintro e u3 ⟨rfl, hb⟩
        dsimp only
        have hT := HT.out.later (rowZ _ _) hb
        have HB := hid hT.below
        refine hK.out _ _ hT.cells.2.1 (fun hHeld => ?_)
        clear hK K hsm hT HT hb
        refine takeO 16 (some 97) (v := ?v26) rfl rfl (by kernel_rfl) (by kernel_rfl) (by kernel_rfl) (Or.inl ⟨by rfl, ?y26⟩) hHeld ?r26
        case y26 => (intro w' hSw; (try dsimp only at hSw); go_simp; try with_reducible rfl)
        try simp only [Act.put, List.setIfInBounds_toArray, List.set_cons_zero, List.set_cons_succ]
        refine takeO 17 (some 6) (v := ?v27) rfl rfl (by kernel_rfl) (by kernel_rfl) (by kernel_rfl) (Or.inl ⟨by rfl, ?y27⟩) hHeld ?r27
        case y27 => (intro w' hSw; (try dsimp only at hSw); go_simp; try with_reducible rfl)
        try simp only [Act.put, List.setIfInBounds_toArray, List.set_cons_zero, List.set_cons_succ]
        refine wpAnyH_done (by kernel_rfl) (Only.on ?_) _
        clear hHeld
        go_wp2_with fail
        go_ret
        exact ⟨rfl, HB.out⟩
      · have i1 : ¬ (k : Int) < (n : Int) := by omega
        go_wp2_with fail
        refine region_held (fun u => u.cell? ⟨r, 2, none⟩ = some (.int .i64 (l : Nat))) 18 rfl (by kernel_rfl) hc2 ?_
        intro hHeld
        refine takeO 0 (some 81) (v := ?v28) rfl rfl (by kernel_rfl) (by kernel_rfl) (by kernel_rfl) (Or.inl ⟨by rfl, ?y28⟩) hHeld ?r28
        case y28 => (intro w' hSw; (try dsimp only at hSw); go_simp; try with_reducible rfl)
        try simp only [Act.put, List.setIfInBounds_toArray, List.set_cons_zero, List.set_cons_succ]
        refine takeO 1 (some 82) (v := ?v29) rfl rfl (by kernel_rfl) (by kernel_rfl) (by kernel_rfl) (Or.inl ⟨by rfl, ?y29⟩) hHeld ?r29
        case y29 => (intro w' hSw; (try dsimp only at hSw); go_simp; try with_reducible rfl)
        try simp only [Act.put, List.setIfInBounds_toArray, List.set_cons_zero, List.set_cons_succ]
        refine takeO 2 (some 83) (v := ?v30) rfl rfl (by kernel_rfl) (by kernel_rfl) (by kernel_rfl) (Or.inl ⟨by rfl, ?y30⟩) hHeld ?r30
        case y30 => (intro w' hSw; (try dsimp only at hSw); go_simp; try with_reducible rfl)
        try simp only [Act.put, List.setIfInBounds_toArray, List.set_cons_zero, List.set_cons_succ]
        refine takeO 4 (some 85) (v := ?v31) rfl rfl (by kernel_rfl) (by kernel_rfl) (by kernel_rfl) (Or.inl ⟨by rfl, ?y31⟩) hHeld ?r31
        case y31 => (intro w' hSw; (try dsimp only at hSw); go_simp; try with_reducible rfl)
        try simp only [Act.put, List.setIfInBounds_toArray, List.set_cons_zero, List.set_cons_succ]
        refine takeO 5 (some 86) (v := ?v32) rfl rfl (by kernel_rfl) (by kernel_rfl) (by kernel_rfl) (Or.inl ⟨by rfl, ?y32⟩) hHeld ?r32
        case y32 => (intro w' hSw; (try dsimp only at hSw); go_simp; try with_reducible rfl)
        try simp only [Act.put, List.setIfInBounds_toArray, List.set_cons_zero, List.set_cons_succ]
        refine takeO 6 (some 87) (v := ?v33) rfl rfl (by kernel_rfl) (by kernel_rfl) (by kernel_rfl) (Or.inl ⟨by rfl, ?y33⟩) hHeld ?r33
        case y33 => (intro w' hSw; (try dsimp only at hSw); go_simp; try with_reducible rfl)
        try simp only [Act.put, List.setIfInBounds_toArray, List.set_cons_zero, List.set_cons_succ]
        refine takeO 7 (some 88) (v := ?v34) rfl rfl (by kernel_rfl) (by kernel_rfl) (by kernel_rfl) (Or.inl ⟨by rfl, ?y34⟩) hHeld ?r34
        case y34 => (intro w' hSw; (try dsimp only at hSw); go_simp; try with_reducible rfl)
        try simp only [Act.put, List.setIfInBounds_toArray, List.set_cons_zero, List.set_cons_succ]
        refine wpAnyH_ready (rs := [3]) (by kernel_rfl) (by simp) ?_
        refine AllReadyH.cons rfl (fun K hK => ?_) AllReadyH.nil
        go_simp
        refine hlo.mono ?_
        rintro e u1 ⟨rfl, hw⟩
        rw [hw]
        clear hw u1
        dsimp only
        refine hK.out _ _ hc2 (fun hHeld => ?_)
        clear hK K hlo
        refine takeO 8 (some 89) (v := ?v35) rfl rfl (by kernel_rfl) (by kernel_rfl) (by kernel_rfl) (Or.inl ⟨by rfl, ?y35⟩) hHeld ?r35
        case y35 => (intro w' hSw; (try dsimp only at hSw); go_simp; try with_reducible rfl)
        try simp only [Act.put, List.setIfInBounds_toArray, List.set_cons_zero, List.set_cons_succ]
        refine takeO 9 (some 90) (v := ?v36) rfl rfl (by kernel_rfl) (by kernel_rfl) (by kernel_rfl) (Or.inl ⟨by rfl, ?y36⟩) hHeld ?r36
        case y36 => (intro w' hSw; (try dsimp only at hSw); go_simp; try with_reducible rfl)
        try simp only [Act.put, List.setIfInBounds_toArray, List.set_cons_zero, List.set_cons_succ]
        refine takeO 10 (some 91) (v := ?v37) rfl rfl (by kernel_rfl) (by kernel_rfl) (by kernel_rfl) (Or.inl ⟨by rfl, ?y37⟩) hHeld ?r37
        case y37 => (intro w' hSw; (try dsimp only at hSw); go_simp; try with_reducible rfl)
        try simp only [Act.put, List.setIfInBounds_toArray, List.set_cons_zero, List.set_cons_succ]
        refine takeO 11 (some 92) (v := ?v38) rfl rfl (by kernel_rfl) (by kernel_rfl) (by kernel_rfl) (Or.inl ⟨by rfl, ?y38⟩) hHeld ?r38
        case y38 => (intro w' hSw; (try dsimp only at hSw); go_simp; try with_reducible rfl)
        try simp only [Act.put, List.setIfInBounds_toArray, List.set_cons_zero, List.set_cons_succ]
        refine takeO 13 (some 94) (v := ?v39) rfl rfl (by kernel_rfl) (by kernel_rfl) (by kernel_rfl) (Or.inl ⟨by rfl, ?y39⟩) hHeld ?r39
        case y39 => (intro w' hSw; (try dsimp only at hSw); go_simp; try with_reducible rfl)
        try simp only [Act.put, List.setIfInBounds_toArray, List.set_cons_zero, List.set_cons_succ]
        refine wpAnyH_ready (rs := [12]) (by kernel_rfl) (by simp) ?_
        refine AllReadyH.cons rfl (fun K hK => ?_) AllReadyH.nil
        go_simp
        refine hdr.mono ?_
        rintro e u1 ⟨v, rfl, hT, _⟩
        obtain ⟨p1, q1, rfl, ha⟩ := hT.row
        dsimp only
        have hrd := hT.refDrain (rowZ _ _)
        refine hK.out _ _ hT.cells.2.1 (fun hHeld => ?_)
        clear hK K hdr hT ha
        refine wpAnyH_ready (rs := [14]) (by kernel_rfl) (by simp) ?_
        refine AllReadyH.cons rfl (fun K hK => ?_) AllReadyH.nil
        go_simp
        refine hrd.mono ?_
        rintro e u2 ⟨⟨p2, q2, rfl, ha2⟩, hT⟩
        dsimp only
        obtain ⟨p3, q3, he, ha1⟩ := hT.row
        cases he
        have hsm := sameI ha1 ha2
        have HT := hid hT
        refine hK.out _ _ hT.cells.2.1 (fun hHeld => ?_)
        clear hK K hrd hT ha1 ha2
        refine wpAnyH_ready (rs := [15]) (by kernel_rfl) (by simp) ?_
        refine AllReadyH.cons rfl (fun K hK => ?_) AllReadyH.nil
        go_simp
        refine hsm.mono ?_
        rintro e u3 ⟨rfl, hb⟩
        dsimp only
        have hT := HT.out.later (rowZ _ _) hb
        have HB := hid hT.below
        refine hK.out _ _ hT.cells.2.1 (fun hHeld => ?_)
        clear hK K hsm hT HT hb
        refine takeO 16 (some 97) (v := ?v40) rfl rfl (by kernel_rfl) (by kernel_rfl) (by kernel_rfl) (Or.inl ⟨by rfl, ?y40⟩) hHeld ?r40
        case y40 => (intro w' hSw; (try dsimp only at hSw); go_simp; try with_reducible rfl)
        try simp only [Act.put, List.setIfInBounds_toArray, List.set_cons_zero, List.set_cons_succ]
        refine takeO 17 (some 6) (v := ?v41) rfl rfl (by kernel_rfl) (by kernel_rfl) (by kernel_rfl) (Or.inl ⟨by rfl, ?y41⟩) hHeld ?r41
        case y41 => (intro w' hSw; (try dsimp only at hSw); go_simp; try with_reducible rfl)
        try simp only [Act.put, List.setIfInBounds_toArray, List.set_cons_zero, List.set_cons_succ]
        refine wpAnyH_done (by kernel_rfl) (Only.on ?_) _
        clear hHeld
        go_wp2_with fail
        go_ret
        exact ⟨rfl, HB.out⟩
end Go.Proofs.Ytllojhhplfdgkaa
