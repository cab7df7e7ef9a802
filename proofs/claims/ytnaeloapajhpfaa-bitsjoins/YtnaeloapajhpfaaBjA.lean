/- Layer 3 (bits): the walk of the law BitsJoins. -/
import Derived.Test.YtnaeloapajhpfaaBtI
namespace Go.Proofs.Ytnaeloapajhpfaa
open Go.RowKit Go.Shelf
set_option linter.unusedVariables false

set_option maxRecDepth 100000 in
set_option maxHeartbeats 4000000 in
theorem bitsJoins_walk (z cut ahead : Int) (w : World) (wz : (Lit.int .u64 z).wf = true) (wc : (Lit.int .i64 cut).wf = true) (wa : (Lit.int .i64 ahead).wf = true) :
    Calls Try.prog 6 #[.int .u64 z, .int .i64 cut, .int .i64 ahead] w fun e w' => e = .returned (.bool true) ∧ Below w.heap.size w w' := by
  obtain ⟨n, rfl, hn⟩ := u64_nat wz
  obtain ⟨c, hc, hce⟩ := mask (m := 63) (x := cut) (k := 6) rfl (by decide)
  obtain ⟨a, ha, hae⟩ := mask (m := 7) (x := ahead) (k := 3) rfl (by decide)
  have hsh := shown w
  clear wz wc wa
  go_enter Try.func6, Try.ntmps6
  go_wp2_with (go_at_call 11; refine hsh.mono ?_; rintro e w0 ⟨rfl, hB0⟩)
  clear hsh
  -- two writers
  have hA0 := (writer_new w0).below ((Below.refl _ _).alloc (Nat.le_refl _) (.cells #[.slice none 0 0, .int .i64 0] 47))
  have hb0 := writer_new (w0.alloc (.cells #[.slice none 0 0, .int .i64 0] 47))
  have hs0 : (w0.alloc (.cells #[.slice none 0 0, .int .i64 0] 47)).heap.size = w0.heap.size + 1 := by simp
  rw [hs0] at hb0
  have hB1 : Below w.heap.size w ((w0.alloc (.cells #[.slice none 0 0, .int .i64 0] 47)).alloc (.cells #[.slice none 0 0, .int .i64 0] 47)) := (hB0.alloc hB0.size _).alloc (by have := hB0.size; simp; omega) _
  generalize (w0.alloc (.cells #[.slice none 0 0, .int .i64 0] 47)).alloc (.cells #[.slice none 0 0, .int .i64 0] 47) = w1 at *
  obtain ⟨A, hA⟩ : ∃ A, w0.heap.size = A := ⟨_, rfl⟩
  have hszA := hB0.size
  rw [hA] at hA0 hb0 hszA ⊢
  have h2 : Two w.heap.size w w1 A (A + 1) [] [] := ⟨_, _, hA0, hb0, hB1, hB1.size, ⟨fun k h1 h2 => by omega⟩, ⟨fun k h => by omega⟩, ⟨fun k h => by omega⟩⟩
  clear hs0 hA hB0 hB1 hszA hA0 hb0
  refine (two_put 1 (a : Int) h2 (by simp)).mono ?_
  rintro e w2 ⟨rfl, h3⟩
  clear h2 w0 w1
  go_wp2_with fail
  refine (two_put 1 (a : Int) h3.swap (by simp)).mono ?_
  rintro e w3 ⟨rfl, h4⟩
  clear h3 w2
  rw [cnt_nat (by omega), List.nil_append] at h4
  go_wp2_with fail
  refine (two_put n 64 h4.swap (by rw [low_length]; omega)).mono ?_
  rintro e w4 ⟨rfl, h5⟩
  clear h4 w3
  obtain ⟨m, hm⟩ : ∃ m, n / 2 ^ c = m := ⟨_, rfl⟩
  obtain ⟨d, hd⟩ : ∃ d, 64 - c = d := ⟨_, rfl⟩
  have e6 : (n : Int) / 2 ^ c = (m : Int) := by rw [← hm]; exact div_pow_cast n c
  have e7 : (64 : Int) - (c : Int) = (d : Int) := by omega
  have HM := hid hm; have HD := hid hd
  have hc64 : c ≤ 64 := by omega
  have hd64 : d ≤ 64 := by omega
  clear hm hd
  go_wp2_with fail
  refine (two_put m (d : Int) h5.swap (by rw [low_length]; omega)).mono ?_
  rintro e w5 ⟨rfl, h6⟩
  clear h5 w4
  go_wp2_with fail
  refine (two_put n (c : Int) h6 (by rw [List.length_append, low_length, low_length]; have := cnt_le (d : Int); omega)).mono ?_
  rintro e w6 ⟨rfl, h7⟩
  clear h6 w5
  rw [show cnt 64 = 64 from rfl, cnt_nat hd64, cnt_nat hc64, List.append_assoc] at h7
  have e8 : low m d ++ low n c = low n 64 := by
    rw [← HM.out, ← HD.out]
    have := low_append n (64 - c) c
    rw [Nat.shiftRight_eq_div_pow, show 64 - c + c = 64 by omega] at this
    exact this.symm
  rw [e8] at h7
  clear e8 e6 e7
  obtain ⟨bs, hbs⟩ : ∃ bs, low 1 a ++ low n 64 = bs := ⟨_, rfl⟩
  have hbl : bs.length = 64 + a := by rw [← hbs, List.length_append, low_length, low_length]; omega
  rw [hbs] at h7
  clear hbs
  have q1 : IntKind.i64.wrap (64 + (a : Int)) = 64 + (a : Int) := wrap_i64 (by omega) (by omega)
  have q2 : IntKind.i64.wrap (64 + (a : Int) + 7) = 64 + (a : Int) + 7 := wrap_i64 (by omega) (by omega)
  have q3 : (64 + (a : Int) + 7).tdiv 8 = (64 + (a : Int) + 7) / 8 := Int.tdiv_eq_ediv_of_nonneg (by omega)
  have q4 : IntKind.i64.wrap ((64 + (a : Int) + 7) / 8) = (64 + (a : Int) + 7) / 8 := wrap_i64 (by omega) (by omega)
  go_wp2_with fail
  refine region_held (fun _ => True) 21 rfl (by kernel_rfl) trivial ?_
  intro hHeld
  refine takeO 0 (some 40) (v := ?v1) rfl rfl (by kernel_rfl) (by kernel_rfl) (by kernel_rfl) (Or.inl ⟨by rfl, ?y1⟩) hHeld ?r1
  case y1 => (intro w' hSw; (try dsimp only at hSw); go_simp; try with_reducible rfl)
  try simp only [Act.put, List.setIfInBounds_toArray, List.set_cons_zero, List.set_cons_succ]
  refine takeO 1 (some 41) (v := ?v2) rfl rfl (by kernel_rfl) (by kernel_rfl) (by kernel_rfl) (Or.inl ⟨by rfl, ?y2⟩) hHeld ?r2
  case y2 => (intro w' hSw; (try dsimp only at hSw); go_simp; try with_reducible rfl)
  try simp only [Act.put, List.setIfInBounds_toArray, List.set_cons_zero, List.set_cons_succ]
  refine takeO 2 (some 42) (v := ?v3) rfl rfl (by kernel_rfl) (by kernel_rfl) (by kernel_rfl) (Or.inl ⟨by rfl, ?y3⟩) hHeld ?r3
  case y3 => (intro w' hSw; (try dsimp only at hSw); go_simp; try with_reducible rfl)
  try simp only [Act.put, List.setIfInBounds_toArray, List.set_cons_zero, List.set_cons_succ]
  refine takeO 5 (some 45) (v := ?v4) rfl rfl (by kernel_rfl) (by kernel_rfl) (by kernel_rfl) (Or.inl ⟨by rfl, ?y4⟩) hHeld ?r4
  case y4 => (intro w' hSw; (try dsimp only at hSw); go_simp; try with_reducible rfl)
  try simp only [Act.put, List.setIfInBounds_toArray, List.set_cons_zero, List.set_cons_succ]
  refine wpAnyH_ready (rs := [3]) (by kernel_rfl) (by simp) ?_
  refine AllReadyH.cons rfl (fun K hK => ?_) AllReadyH.nil
  go_simp
  refine (two_bytes (h7.below (below_drewN w6 1)).swap (by omega)).mono ?_
  rintro e w7 ⟨⟨v7, ys, f7, rfl, hr7, hp7⟩, h8, _⟩
  obtain ⟨p7, cap7, rfl, _⟩ := hr7.arg
  have cv7 := conv_row hr7
  have HP := hid hp7
  clear hp7 h7
  dsimp only
  refine hK.out _ _ trivial (fun hHeld => ?_)
  clear hK K
  refine wpAnyH_ready (rs := [4, 6]) (by kernel_rfl) (by simp) ?_
  refine AllReadyH.cons rfl (fun K hK => ?_) (AllReadyH.cons rfl (fun K hK => ?_) AllReadyH.nil)
  · go_simp
    refine hK.out _ _ trivial (fun hHeld => ?_)
    clear hK K
    refine wpAnyH_ready (rs := [6]) (by kernel_rfl) (by simp) ?_
    refine AllReadyH.cons rfl (fun K hK => ?_) AllReadyH.nil
    go_simp
    refine (two_bytes h8.swap (by omega)).mono ?_
    rintro e w8 ⟨⟨v8, zs, f8, rfl, hr8, hp8⟩, h9, hb8⟩
    obtain rfl := hp8.uniq HP.out
    obtain ⟨p8, cap8, rfl, _⟩ := hr8.arg
    have cv8 := conv_row hr8
    have cv9 := conv_row (hr7.below hb8)
    clear hp8 h8 cv7
    dsimp only
    refine hK.out _ _ trivial (fun hHeld => ?_)
    clear hK K
    refine wpAnyH_ready (rs := [7]) (by kernel_rfl) (by simp) ?_
    refine AllReadyH.cons rfl (fun K hK => ?_) AllReadyH.nil
    go_simp
    refine hK.out _ _ trivial (fun hHeld => ?_)
    clear hK K
    refine takeO 8 (some 48) (v := ?v5) rfl rfl (by kernel_rfl) (by kernel_rfl) (by kernel_rfl) (Or.inl ⟨by rfl, ?y5⟩) hHeld ?r5
    case y5 => (intro w' hSw; (try dsimp only at hSw); go_simp; try with_reducible rfl)
    try simp only [Act.put, List.setIfInBounds_toArray, List.set_cons_zero, List.set_cons_succ]
    refine takeO 9 (some 49) (v := ?v6) rfl rfl (by kernel_rfl) (by kernel_rfl) (by kernel_rfl) (Or.inl ⟨by rfl, ?y6⟩) hHeld ?r6
    case y6 => (intro w' hSw; (try dsimp only at hSw); go_simp; try with_reducible rfl)
    try simp only [Act.put, List.setIfInBounds_toArray, List.set_cons_zero, List.set_cons_succ]
    refine takeO 10 (some 50) (v := ?v7) rfl rfl (by kernel_rfl) (by kernel_rfl) (by kernel_rfl) (Or.inl ⟨by rfl, ?y7⟩) hHeld ?r7
    case y7 => (intro w' hSw; (try dsimp only at hSw); go_simp; try with_reducible rfl)
    try simp only [Act.put, List.setIfInBounds_toArray, List.set_cons_zero, List.set_cons_succ]
    refine takeO 11 (some 51) (v := ?v8) rfl rfl (by kernel_rfl) (by kernel_rfl) (by kernel_rfl) (Or.inl ⟨by rfl, ?y8⟩) hHeld ?r8
    case y8 => (intro w' hSw; (try dsimp only at hSw); go_simp; try with_reducible rfl)
    try simp only [Act.put, List.setIfInBounds_toArray, List.set_cons_zero, List.set_cons_succ]
    refine takeO 14 (some 54) (v := ?v9) rfl rfl (by kernel_rfl) (by kernel_rfl) (by kernel_rfl) (Or.inl ⟨by rfl, ?y9⟩) hHeld ?r9
    case y9 => (intro w' hSw; (try dsimp only at hSw); go_simp; try with_reducible rfl)
    try simp only [Act.put, List.setIfInBounds_toArray, List.set_cons_zero, List.set_cons_succ]
    refine takeO 15 (some 55) (v := ?v10) rfl rfl (by kernel_rfl) (by kernel_rfl) (by kernel_rfl) (Or.inl ⟨by rfl, ?y10⟩) hHeld ?r10
    case y10 => (intro w' hSw; (try dsimp only at hSw); go_simp; try with_reducible rfl)
    try simp only [Act.put, List.setIfInBounds_toArray, List.set_cons_zero, List.set_cons_succ]
    refine takeO 16 (some 56) (v := ?v11) rfl rfl (by kernel_rfl) (by kernel_rfl) (by kernel_rfl) (Or.inl ⟨by rfl, ?y11⟩) hHeld ?r11
    case y11 => (intro w' hSw; (try dsimp only at hSw); go_simp; try with_reducible rfl)
    try simp only [Act.put, List.setIfInBounds_toArray, List.set_cons_zero, List.set_cons_succ]
    refine takeO 17 (some 57) (v := ?v12) rfl rfl (by kernel_rfl) (by kernel_rfl) (by kernel_rfl) (Or.inl ⟨by rfl, ?y12⟩) hHeld ?r12
    case y12 => (intro w' hSw; (try dsimp only at hSw); go_simp; try with_reducible rfl)
    try simp only [Act.put, List.setIfInBounds_toArray, List.set_cons_zero, List.set_cons_succ]
    refine wpAnyH_ready (rs := [12]) (by kernel_rfl) (by simp) ?_
    refine AllReadyH.cons rfl (fun K hK => ?_) AllReadyH.nil
    go_simp
    refine (two_bytes h9.swap (by omega)).mono ?_
    rintro e w9 ⟨⟨v9, ys9, f9, rfl, hr9, hp9⟩, h10, _⟩
    obtain rfl := hp9.uniq HP.out
    obtain ⟨p9, cap9, rfl, ha9⟩ := hr9.arg
    have hB9 := h10.bel
    have hq9 : ((ys9.length : Int) == (64 + (a : Int) + 7) / 8) = true := beq_iff_eq.2 (by have := hp9.len; have := hp9.few; omega)
    clear hp9 hr9 h10 ha9
    dsimp only
    refine hK.out _ _ trivial (fun hHeld => ?_)
    clear hK K
    refine takeO 13 (some 53) (v := ?v13) rfl rfl (by kernel_rfl) (by kernel_rfl) (by kernel_rfl) (Or.inl ⟨by rfl, ?y13⟩) hHeld ?r13
    case y13 => (intro w' hSw; (try dsimp only at hSw); go_simp; try with_reducible rfl)
    try simp only [Act.put, List.setIfInBounds_toArray, List.set_cons_zero, List.set_cons_succ]
    refine takeO 18 (some 58) (v := ?v14) rfl rfl (by kernel_rfl) (by kernel_rfl) (by kernel_rfl) (Or.inl ⟨by rfl, ?y14⟩) hHeld ?r14
    case y14 => (intro w' hSw; (try dsimp only at hSw); go_simp; try with_reducible rfl)
    try simp only [Act.put, List.setIfInBounds_toArray, List.set_cons_zero, List.set_cons_succ]
    refine takeO 19 (some 59) (v := ?v15) rfl rfl (by kernel_rfl) (by kernel_rfl) (by kernel_rfl) (Or.inl ⟨by rfl, ?y15⟩) hHeld ?r15
    case y15 => (intro w' hSw; (try dsimp only at hSw); go_simp; try with_reducible rfl)
    try simp only [Act.put, List.setIfInBounds_toArray, List.set_cons_zero, List.set_cons_succ]
    refine takeO 20 (some 6) (v := ?v16) rfl rfl (by kernel_rfl) (by kernel_rfl) (by kernel_rfl) (Or.inl ⟨by rfl, ?y16⟩) hHeld ?r16
    case y16 => (intro w' hSw; (try dsimp only at hSw); go_simp; try with_reducible rfl)
    try simp only [Act.put, List.setIfInBounds_toArray, List.set_cons_zero, List.set_cons_succ]
    refine wpAnyH_done (by kernel_rfl) (Only.on ?_) _
    go_wp2
    go_ret
    exact ⟨rfl, hB9⟩
  ·
    go_simp
    refine (two_bytes h8.swap (by omega)).mono ?_
    rintro e w8 ⟨⟨v8, zs, f8, rfl, hr8, hp8⟩, h9, hb8⟩
    obtain rfl := hp8.uniq HP.out
    obtain ⟨p8, cap8, rfl, _⟩ := hr8.arg
    have cv8 := conv_row hr8
    have cv9 := conv_row (hr7.below hb8)
    clear hp8 h8 cv7
    dsimp only
    refine hK.out _ _ trivial (fun hHeld => ?_)
    clear hK K
    refine wpAnyH_ready (rs := [4, 7]) (by kernel_rfl) (by simp) ?_
    refine AllReadyH.cons rfl (fun K hK => ?_) (AllReadyH.cons rfl (fun K hK => ?_) AllReadyH.nil)
    · go_simp
      refine hK.out _ _ trivial (fun hHeld => ?_)
      clear hK K
      refine wpAnyH_ready (rs := [7]) (by kernel_rfl) (by simp) ?_
      refine AllReadyH.cons rfl (fun K hK => ?_) AllReadyH.nil
      go_simp
      refine hK.out _ _ trivial (fun hHeld => ?_)
      clear hK K
      refine takeO 8 (some 48) (v := ?v17) rfl rfl (by kernel_rfl) (by kernel_rfl) (by kernel_rfl) (Or.inl ⟨by rfl, ?y17⟩) hHeld ?r17
      case y17 => (intro w' hSw; (try dsimp only at hSw); go_simp; try with_reducible rfl)
      try simp only [Act.put, List.setIfInBounds_toArray, List.set_cons_zero, List.set_cons_succ]
      refine takeO 9 (some 49) (v := ?v18) rfl rfl (by kernel_rfl) (by kernel_rfl) (by kernel_rfl) (Or.inl ⟨by rfl, ?y18⟩) hHeld ?r18
      case y18 => (intro w' hSw; (try dsimp only at hSw); go_simp; try with_reducible rfl)
      try simp only [Act.put, List.setIfInBounds_toArray, List.set_cons_zero, List.set_cons_succ]
      refine takeO 10 (some 50) (v := ?v19) rfl rfl (by kernel_rfl) (by kernel_rfl) (by kernel_rfl) (Or.inl ⟨by rfl, ?y19⟩) hHeld ?r19
      case y19 => (intro w' hSw; (try dsimp only at hSw); go_simp; try with_reducible rfl)
      try simp only [Act.put, List.setIfInBounds_toArray, List.set_cons_zero, List.set_cons_succ]
      refine takeO 11 (some 51) (v := ?v20) rfl rfl (by kernel_rfl) (by kernel_rfl) (by kernel_rfl) (Or.inl ⟨by rfl, ?y20⟩) hHeld ?r20
      case y20 => (intro w' hSw; (try dsimp only at hSw); go_simp; try with_reducible rfl)
      try simp only [Act.put, List.setIfInBounds_toArray, List.set_cons_zero, List.set_cons_succ]
      refine takeO 14 (some 54) (v := ?v21) rfl rfl (by kernel_rfl) (by kernel_rfl) (by kernel_rfl) (Or.inl ⟨by rfl, ?y21⟩) hHeld ?r21
      case y21 => (intro w' hSw; (try dsimp only at hSw); go_simp; try with_reducible rfl)
      try simp only [Act.put, List.setIfInBounds_toArray, List.set_cons_zero, List.set_cons_succ]
      refine takeO 15 (some 55) (v := ?v22) rfl rfl (by kernel_rfl) (by kernel_rfl) (by kernel_rfl) (Or.inl ⟨by rfl, ?y22⟩) hHeld ?r22
      case y22 => (intro w' hSw; (try dsimp only at hSw); go_simp; try with_reducible rfl)
      try simp only [Act.put, List.setIfInBounds_toArray, List.set_cons_zero, List.set_cons_succ]
      refine takeO 16 (some 56) (v := ?v23) rfl rfl (by kernel_rfl) (by kernel_rfl) (by kernel_rfl) (Or.inl ⟨by rfl, ?y23⟩) hHeld ?r23
      case y23 => (intro w' hSw; (try dsimp only at hSw); go_simp; try with_reducible rfl)
      try simp only [Act.put, List.setIfInBounds_toArray, List.set_cons_zero, List.set_cons_succ]
      refine takeO 17 (some 57) (v := ?v24) rfl rfl (by kernel_rfl) (by kernel_rfl) (by kernel_rfl) (Or.inl ⟨by rfl, ?y24⟩) hHeld ?r24
      case y24 => (intro w' hSw; (try dsimp only at hSw); go_simp; try with_reducible rfl)
      try simp only [Act.put, List.setIfInBounds_toArray, List.set_cons_zero, List.set_cons_succ]
      refine wpAnyH_ready (rs := [12]) (by kernel_rfl) (by simp) ?_
      refine AllReadyH.cons rfl (fun K hK => ?_) AllReadyH.nil
      go_simp
      refine (two_bytes h9.swap (by omega)).mono ?_
      rintro e w9 ⟨⟨v9, ys9, f9, rfl, hr9, hp9⟩, h10, _⟩
      obtain rfl := hp9.uniq HP.out
      obtain ⟨p9, cap9, rfl, ha9⟩ := hr9.arg
      have hB9 := h10.bel
      have hq9 : ((ys9.length : Int) == (64 + (a : Int) + 7) / 8) = true := beq_iff_eq.2 (by have := hp9.len; have := hp9.few; omega)
      clear hp9 hr9 h10 ha9
      dsimp only
      refine hK.out _ _ trivial (fun hHeld => ?_)
      clear hK K
      refine takeO 13 (some 53) (v := ?v25) rfl rfl (by kernel_rfl) (by kernel_rfl) (by kernel_rfl) (Or.inl ⟨by rfl, ?y25⟩) hHeld ?r25
      case y25 => (intro w' hSw; (try dsimp only at hSw); go_simp; try with_reducible rfl)
      try simp only [Act.put, List.setIfInBounds_toArray, List.set_cons_zero, List.set_cons_succ]
      refine takeO 18 (some 58) (v := ?v26) rfl rfl (by kernel_rfl) (by kernel_rfl) (by kernel_rfl) (Or.inl ⟨by rfl, ?y26⟩) hHeld ?r26
      case y26 => (intro w' hSw; (try dsimp only at hSw); go_simp; try with_reducible rfl)
      try simp only [Act.put, List.setIfInBounds_toArray, List.set_cons_zero, List.set_cons_succ]
      refine takeO 19 (some 59) (v := ?v27) rfl rfl (by kernel_rfl) (by kernel_rfl) (by kernel_rfl) (Or.inl ⟨by rfl, ?y27⟩) hHeld ?r27
      case y27 => (intro w' hSw; (try dsimp only at hSw); go_simp; try with_reducible rfl)
      try simp only [Act.put, List.setIfInBounds_toArray, List.set_cons_zero, List.set_cons_succ]
      refine takeO 20 (some 6) (v := ?v28) rfl rfl (by kernel_rfl) (by kernel_rfl) (by kernel_rfl) (Or.inl ⟨by rfl, ?y28⟩) hHeld ?r28
      case y28 => (intro w' hSw; (try dsimp only at hSw); go_simp; try with_reducible rfl)
      try simp only [Act.put, List.setIfInBounds_toArray, List.set_cons_zero, List.set_cons_succ]
      refine wpAnyH_done (by kernel_rfl) (Only.on ?_) _
      go_wp2
      go_ret
      exact ⟨rfl, hB9⟩
    · go_simp
      refine hK.out _ _ trivial (fun hHeld => ?_)
      clear hK K
      refine wpAnyH_ready (rs := [4]) (by kernel_rfl) (by simp) ?_
      refine AllReadyH.cons rfl (fun K hK => ?_) AllReadyH.nil
      go_simp
      refine hK.out _ _ trivial (fun hHeld => ?_)
      clear hK K
      refine takeO 8 (some 48) (v := ?v29) rfl rfl (by kernel_rfl) (by kernel_rfl) (by kernel_rfl) (Or.inl ⟨by rfl, ?y29⟩) hHeld ?r29
      case y29 => (intro w' hSw; (try dsimp only at hSw); go_simp; try with_reducible rfl)
      try simp only [Act.put, List.setIfInBounds_toArray, List.set_cons_zero, List.set_cons_succ]
      refine takeO 9 (some 49) (v := ?v30) rfl rfl (by kernel_rfl) (by kernel_rfl) (by kernel_rfl) (Or.inl ⟨by rfl, ?y30⟩) hHeld ?r30
      case y30 => (intro w' hSw; (try dsimp only at hSw); go_simp; try with_reducible rfl)
      try simp only [Act.put, List.setIfInBounds_toArray, List.set_cons_zero, List.set_cons_succ]
      refine takeO 10 (some 50) (v := ?v31) rfl rfl (by kernel_rfl) (by kernel_rfl) (by kernel_rfl) (Or.inl ⟨by rfl, ?y31⟩) hHeld ?r31
      case y31 => (intro w' hSw; (try dsimp only at hSw); go_simp; try with_reducible rfl)
      try simp only [Act.put, List.setIfInBounds_toArray, List.set_cons_zero, List.set_cons_succ]
      refine takeO 11 (some 51) (v := ?v32) rfl rfl (by kernel_rfl) (by kernel_rfl) (by kernel_rfl) (Or.inl ⟨by rfl, ?y32⟩) hHeld ?r32
      case y32 => (intro w' hSw; (try dsimp only at hSw); go_simp; try with_reducible rfl)
      try simp only [Act.put, List.setIfInBounds_toArray, List.set_cons_zero, List.set_cons_succ]
      refine takeO 14 (some 54) (v := ?v33) rfl rfl (by kernel_rfl) (by kernel_rfl) (by kernel_rfl) (Or.inl ⟨by rfl, ?y33⟩) hHeld ?r33
      case y33 => (intro w' hSw; (try dsimp only at hSw); go_simp; try with_reducible rfl)
      try simp only [Act.put, List.setIfInBounds_toArray, List.set_cons_zero, List.set_cons_succ]
      refine takeO 15 (some 55) (v := ?v34) rfl rfl (by kernel_rfl) (by kernel_rfl) (by kernel_rfl) (Or.inl ⟨by rfl, ?y34⟩) hHeld ?r34
      case y34 => (intro w' hSw; (try dsimp only at hSw); go_simp; try with_reducible rfl)
      try simp only [Act.put, List.setIfInBounds_toArray, List.set_cons_zero, List.set_cons_succ]
      refine takeO 16 (some 56) (v := ?v35) rfl rfl (by kernel_rfl) (by kernel_rfl) (by kernel_rfl) (Or.inl ⟨by rfl, ?y35⟩) hHeld ?r35
      case y35 => (intro w' hSw; (try dsimp only at hSw); go_simp; try with_reducible rfl)
      try simp only [Act.put, List.setIfInBounds_toArray, List.set_cons_zero, List.set_cons_succ]
      refine takeO 17 (some 57) (v := ?v36) rfl rfl (by kernel_rfl) (by kernel_rfl) (by kernel_rfl) (Or.inl ⟨by rfl, ?y36⟩) hHeld ?r36
      case y36 => (intro w' hSw; (try dsimp only at hSw); go_simp; try with_reducible rfl)
      try simp only [Act.put, List.setIfInBounds_toArray, List.set_cons_zero, List.set_cons_succ]
      refine wpAnyH_ready (rs := [12]) (by kernel_rfl) (by simp) ?_
      refine AllReadyH.cons rfl (fun K hK => ?_) AllReadyH.nil
      go_simp
      refine (two_bytes h9.swap (by omega)).mono ?_
      rintro e w9 ⟨⟨v9, ys9, f9, rfl, hr9, hp9⟩, h10, _⟩
      obtain rfl := hp9.uniq HP.out
      obtain ⟨p9, cap9, rfl, ha9⟩ := hr9.arg
      have hB9 := h10.bel
      have hq9 : ((ys9.length : Int) == (64 + (a : Int) + 7) / 8) = true := beq_iff_eq.2 (by have := hp9.len; have := hp9.few; omega)
      clear hp9 hr9 h10 ha9
      dsimp only
      refine hK.out _ _ trivial (fun hHeld => ?_)
      clear hK K
      refine takeO 13 (some 53) (v := ?v37) rfl rfl (by kernel_rfl) (by kernel_rfl) (by kernel_rfl) (Or.inl ⟨by rfl, ?y37⟩) hHeld ?r37
      case y37 => (intro w' hSw; (try dsimp only at hSw); go_simp; try with_reducible rfl)
      try simp only [Act.put, List.setIfInBounds_toArray, List.set_cons_zero, List.set_cons_succ]
      refine takeO 18 (some 58) (v := ?v38) rfl rfl (by kernel_rfl) (by kernel_rfl) (by kernel_rfl) (Or.inl ⟨by rfl, ?y38⟩) hHeld ?r38
      case y38 => (intro w' hSw; (try dsimp only at hSw); go_simp; try with_reducible rfl)
      try simp only [Act.put, List.setIfInBounds_toArray, List.set_cons_zero, List.set_cons_succ]
      refine takeO 19 (some 59) (v := ?v39) rfl rfl (by kernel_rfl) (by kernel_rfl) (by kernel_rfl) (Or.inl ⟨by rfl, ?y39⟩) hHeld ?r39
      case y39 => (intro w' hSw; (try dsimp only at hSw); go_simp; try with_reducible rfl)
      try simp only [Act.put, List.setIfInBounds_toArray, List.set_cons_zero, List.set_cons_succ]
      refine takeO 20 (some 6) (v := ?v40) rfl rfl (by kernel_rfl) (by kernel_rfl) (by kernel_rfl) (Or.inl ⟨by rfl, ?y40⟩) hHeld ?r40
      case y40 => (intro w' hSw; (try dsimp only at hSw); go_simp; try with_reducible rfl)
      try simp only [Act.put, List.setIfInBounds_toArray, List.set_cons_zero, List.set_cons_succ]
      refine wpAnyH_done (by kernel_rfl) (Only.on ?_) _
      go_wp2
      go_ret
      exact ⟨rfl, hB9⟩
end Go.Proofs.Ytnaeloapajhpfaa
