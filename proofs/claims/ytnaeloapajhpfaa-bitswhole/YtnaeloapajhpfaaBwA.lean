/- Layer 3 (bits): the walk of the law BitsWhole. -/
import Derived.Test.YtnaeloapajhpfaaBtJ
namespace Go.Proofs.Ytnaeloapajhpfaa
open Go.RowKit Go.Shelf
set_option linter.unusedVariables false

theorem unpack_cons (y : Nat) (ys : List Nat) : unpack (y :: ys) = low y 8 ++ unpack ys := rfl
theorem drop_cons (ys : List Nat) {k : Nat} (h : k < ys.length) : ys.drop k = ys.getD k 0 :: ys.drop (k + 1) := by
  rw [List.drop_eq_getElem_cons h]; congr 1; simp [h]
theorem take_snoc (ys : List Nat) {k : Nat} (h : k < ys.length) : ys.take (k + 1) = ys.take k ++ [ys.getD k 0] := by
  rw [List.take_succ_eq_append_getElem h]; congr 2; simp [h]
theorem getD_byte {ys : List Nat} (h : ∀ y ∈ ys, y < 256) (k : Nat) : ys.getD k 0 < 256 := by
  rcases Nat.lt_or_ge k ys.length with hk | hk
  · rw [List.getD_eq_getElem?_getD, List.getElem?_eq_getElem hk]; exact h _ (List.getElem_mem _)
  · rw [List.getD_eq_getElem?_getD, List.getElem?_eq_none hk]; decide
theorem get8 {y : Nat} {rs : List Bool} (h : y < 256) : gotV (low y 8 ++ rs) 8 = y ∧ gotB (low y 8 ++ rs) 8 = true ∧ gotR (low y 8 ++ rs) 8 = rs := by
  have hl : 8 ≤ (low y 8 ++ rs).length := by rw [List.length_append, low_length]; omega
  unfold gotV gotB gotR
  rw [if_pos hl, if_pos hl, List.take_left' (low_length y 8), List.drop_left' (low_length y 8), val_low]
  exact ⟨by omega, decide_eq_true hl, rfl⟩
theorem get16 {x y : Nat} {rs : List Bool} (h : x < 256) (h' : y < 256) : gotV (low x 8 ++ (low y 8 ++ rs)) 16 = 256 * x + y ∧ gotB (low x 8 ++ (low y 8 ++ rs)) 16 = true ∧ gotR (low x 8 ++ (low y 8 ++ rs)) 16 = rs := by
  have hl2 : (low x 8 ++ low y 8).length = 16 := by rw [List.length_append, low_length, low_length]
  rw [← List.append_assoc]
  have hl : 16 ≤ (low x 8 ++ low y 8 ++ rs).length := by rw [List.length_append, hl2]; omega
  unfold gotV gotB gotR
  rw [if_pos hl, if_pos hl, List.take_left' hl2, List.drop_left' hl2, val_append, low_length, val_low, val_low]
  exact ⟨by omega, decide_eq_true hl, rfl⟩
theorem or16 {x y : Nat} (h : x < 256) (h' : y < 256) : bits .or .u64 ((x : Int) * 256) (y : Int) = ((256 * x + y : Nat) : Int) := by
  rw [show (x : Int) * 256 = ((256 * x : Nat) : Int) by omega, bits_or_u64, Nat.mod_eq_of_lt (by omega), Nat.mod_eq_of_lt (by omega)]
  have := Nat.two_pow_add_eq_or_of_lt (i := 8) (b := y) (by omega) x
  rw [← this]
set_option maxRecDepth 100000 in
set_option maxHeartbeats 4000000 in
theorem bitsWhole_walk (p : Option Addr) (n cap : Nat) (z : Nat → Int) (w : World) (h : Arg w p n cap fun i => .int .u8 (z i)) (hz : ∀ i, (Lit.int .u8 (z i)).wf = true) :
    Calls Try.prog 7 #[.slice p n cap] w fun e w' => e = .returned (.bool true) ∧ Below w.heap.size w w' := by
  have hle := h.le; have hmost := h.most
  obtain ⟨ys, hyl, hy, ha⟩ := h.bytes hz (k := min n 200) (by omega)
  unfold maxLen at hmost
  have hsh := shown w
  have HA := hid ha
  clear h hz ha
  have hnr := fun W (hb : Below w.heap.size w W) => newReader p cap ys W (HA.out.keep hb) hy (by omega)
  have HNR := hid hnr
  clear hnr
  go_enter Try.func7, Try.ntmps7
  go_wp2_with (go_at_call 11; refine hsh.mono ?_; rintro e w0 ⟨rfl, hB0⟩)
  case' inl => (have hN' : ys.length = 200 := by omega)
  case' inr => (have hN' : ys.length = n := by omega)
  case inl =>
    first | rw [← hN'] | (have e5 : (200 : Nat) = ys.length := hN'.symm; rw [e5])
    have hcap : ys.length ≤ cap := by omega
    have hl200 : ys.length ≤ 200 := by omega
    clear hsh hN' hyl
    have h0 := writer_new w0
    have hB1 : Below w.heap.size w (w0.alloc (.cells #[.slice none 0 0, .int .i64 0] 47)) := hB0.alloc hB0.size _
    have hf0 : From w.heap.size (fun k => k = w0.heap.size) := ⟨fun k e => by have := hB0.size; omega⟩
    generalize w0.alloc (.cells #[.slice none 0 0, .int .i64 0] 47) = w1 at *
    obtain ⟨A, hA⟩ : ∃ A, w0.heap.size = A := ⟨_, rfl⟩
    rw [hA] at h0 hf0 ⊢
    generalize (fun k => k = A) = S0 at h0 hf0
    clear hA
    go_loopw [5] (fun i wr => ∃ (k : Nat) (S1 : Nat → Prop), i = .int .i64 k ∧ k ≤ ys.length ∧ WrAt wr S1 A (unpack (ys.take k)) ∧ Below w.heap.size w wr ∧ From w.heap.size S1) (fun i _ => ys.length - (intOf i).toNat)
    case atStart => exact ⟨0, S0, rfl, Nat.zero_le _, h0, hB1, hf0⟩
    case round =>
      obtain ⟨k, S1, rfl, hk, h1, hB, hf⟩ := hrel
      clear h0 hf0 hB1 hB0
      by_cases hlt : k < ys.length
      · have i1 : (k : Int) < (ys.length : Int) := by omega
        obtain ⟨ab, ao, rfl, _, hcs⟩ := (HA.out.keep hB).at (i := k) (by omega)
        have c1 := hcs k (by omega)
        have hpu := put S1 A _ (ys.getD k 0) 8 wr h1 (by rw [unpack_length, List.length_take]; omega)
        rw [show cnt 8 = 8 from rfl, ← unpack_snoc, ← take_snoc ys hlt] at hpu
        obtain ⟨yk, hyk⟩ : ∃ yk, ys.getD k 0 = yk := ⟨_, rfl⟩
        have hy8 := getD_byte hy k
        have hwk := wrap_u64 (n := yk) (by omega)
        rw [hyk] at c1 hpu hy8
        clear hcs h1 hyk
        go_wp2_with fail
        refine hpu.mono ?_
        rintro e w2 ⟨rfl, S2, h2, f2, s2⟩
        have hB2 := hB.trans (f2.below hB.size hf.le)
        have hf2 := hf.step s2 hB.size
        clear hpu f2 s2
        go_wp2_with fail
        go_roundw
        case rel => exact ⟨k + 1, S2, by go_num, by omega, h2, hB2, hf2⟩
        case measure => simp [intOf]; omega
      · obtain rfl : k = ys.length := by omega
        have i1 : ¬ (ys.length : Int) < (ys.length : Int) := by omega
        rw [List.take_length] at h1
        have H1 := hid h1
        clear h1
        go_wp2_with fail
        refine (HNR.out wr hB).mono ?_
        rintro e w2 ⟨⟨x2, S2, rfl, r2, f2⟩, b2⟩
        have hB2 := hB.trans (b2.mono hB.size)
        go_wp2_with fail
        refine (HNR.out w2 hB2).mono ?_
        rintro e w3 ⟨⟨x3, S3, rfl, r3, f3⟩, b3⟩
        have hB3 := hB2.trans (b3.mono hB2.size)
        have hT : Three w.heap.size w w3 S1 S2 S3 := ⟨hB3, hB3.size, fun k h1 h2 => by have := H1.out.lt k h1; have := f2.le k h2; omega, fun k h1 h2 => by have := H1.out.lt k h1; have := f3.le k h2; have := b2.size; omega, fun k h1 h2 => by have := r2.lt k h1; have := f3.le k h2; omega, hf, ⟨fun k hk => Nat.le_trans hB.size (f2.le k hk)⟩, ⟨fun k hk => Nat.le_trans hB2.size (f3.le k hk)⟩⟩
        have HT := hid hT; have Q1 := hid (H1.out.below (btrans b2 b3)); have Q2 := hid (r2.below b3); have Q3 := hid r3
        clear r2 r3 f2 f3 b2 b3 hB2 hB3 hT H1 HNR hf hB
        go_wp2_with fail
        go_loopw [8] (fun i wr => ∃ (k : Nat), i = .int .i64 ((2 * k : Nat) : Int) ∧ 2 * k ≤ ys.length ∧ WrAt wr S1 A (unpack ys) ∧ RdAt wr S2 x2 (unpack (ys.drop (2 * k))) ∧ RdAt wr S3 x3 (unpack (ys.drop (2 * k))) ∧ Three w.heap.size w wr S1 S2 S3) (fun i _ => ys.length - (intOf i).toNat)
        case atStart => exact ⟨0, rfl, Nat.zero_le _, Q1.out, Q2.out, Q3.out, HT.out⟩
        case round =>
          obtain ⟨k, rfl, hk, h1, r2, r3, hT⟩ := hrel
          clear HT Q1 Q2 Q3
          obtain ⟨i, hi⟩ : ∃ i, 2 * k = i := ⟨_, rfl⟩
          have HI := hid (show 2 * (k + 1) = i + 2 by omega)
          rw [hi] at hk r2 r3 ⊢
          clear hi
          by_cases hlt : i + 1 < ys.length
          · have i1 : (i : Int) + 1 < (ys.length : Int) := by omega
            have i2 : (i : Int) < (ys.length : Int) := by omega
            obtain ⟨ab, ao, rfl, _, hcs⟩ := (HA.out.keep hT.bel).at (i := i) (by omega)
            have hd1 : unpack (ys.drop i) = low (ys.getD i 0) 8 ++ (low (ys.getD (i + 1) 0) 8 ++ unpack (ys.drop (i + 2))) := by
              rw [drop_cons ys (show i < ys.length by omega), unpack_cons, drop_cons ys hlt, unpack_cons]
            rw [hd1] at r2 r3
            obtain ⟨rr, hrr⟩ : ∃ rr, unpack (ys.drop (i + 2)) = rr := ⟨_, rfl⟩
            rw [hrr] at r2 r3
            have HRR := hid hrr
            have hb1 := getD_byte hy i
            have hb2 := getD_byte hy (i + 1)
            obtain ⟨y1, hy1⟩ : ∃ y1, ys.getD i 0 = y1 := ⟨_, rfl⟩
            obtain ⟨y2, hy2⟩ : ∃ y2, ys.getD (i + 1) 0 = y2 := ⟨_, rfl⟩
            have HCS := hid hcs
            have HY1 := hid hy1; have HY2 := hid hy2
            rw [hy1] at r2 r3 hb1
            rw [hy2] at r2 r3 hb2
            have hg1 := getR S2 x2 _ 8 wr r2
            rw [show cnt 8 = 8 from rfl, (get8 hb1).1, (get8 hb1).2.1, (get8 hb1).2.2] at hg1
            have H1 := hid h1; have R3 := hid r3; have HT := hid hT
            clear hcs hd1 hrr hy1 hy2 h1 r2 r3 hT
            go_wp2_with fail
            refine hg1.mono ?_
            rintro e w4 ⟨rfl, r4, f4⟩
            have hg2 := getR S2 x2 _ 8 w4 r4
            rw [show cnt 8 = 8 from rfl, (get8 hb2).1, (get8 hb2).2.1, (get8 hb2).2.2] at hg2
            have H4 := hid (H1.out.keep f4 HT.out.d12)
            have R5 := hid (R3.out.keep f4 (fun k a b => HT.out.d23 k b a))
            have HT4 := hid (HT.out.rot.step f4)
            clear hg1 r4 H1 R3 HT f4
            go_wp2_with fail
            refine hg2.mono ?_
            rintro e w5 ⟨rfl, r6, f6⟩
            have R6 := hid r6
            have H5 := hid (H4.out.keep f6 (fun k a b => HT4.out.d13 k b a))
            have R7 := hid (R5.out.keep f6 (fun k a b => HT4.out.d12 k b a))
            have HT5 := hid (HT4.out.step f6).rot
            have hg3 := getR S3 x3 _ 16 w5 R7.out
            rw [show cnt 16 = 16 from rfl, (get16 hb1 hb2).1, (get16 hb1 hb2).2.1, (get16 hb1 hb2).2.2] at hg3
            clear hg2 r6 H4 R5 HT4 f6
            go_wp2_with fail
            refine hg3.mono ?_
            rintro e w6 ⟨rfl, r8, f8⟩
            have HT6 := hid (HT5.out.step f8).rot
            have H6 := hid (H5.out.keep f8 (fun k a b => HT5.out.d12 k b a))
            have R9 := hid (R6.out.keep f8 (fun k a b => HT5.out.d13 k b a))
            have R8 := hid r8
            obtain ⟨ab2, ao2, hab, _, hcs2⟩ := (HA.out.keep HT6.out.bel).at (i := i) (by omega)
            cases hab
            have c1 := hcs2 i (by omega)
            have c2 := hcs2 (i + 1) hlt
            rw [HY1.out] at c1
            rw [HY2.out] at c2
            have c3 := c2
            rw [← Nat.add_assoc] at c3
            have q1 := wrap_u64 (n := y1) (by omega)
            have q2 := wrap_u64 (n := y2) (by omega)
            have q3 := or16 hb1 hb2
            have q4 : IntKind.u64.wrap ((y1 : Int) * 256) = (y1 : Int) * 256 := by
              rw [show (y1 : Int) * 256 = ((y1 * 256 : Nat) : Int) by omega]; exact wrap_u64 (by omega)
            clear hg3 hcs2 r8 H5 R6 R7 HT5 f8 HCS HY1 HY2
            go_wp2_with fail
            go_roundw
            case rel => exact ⟨k + 1, by rw [HI.out]; go_num, by rw [HI.out]; omega, H6.out, by rw [HI.out, HRR.out]; exact R9.out, by rw [HI.out, HRR.out]; exact R8.out, HT6.out⟩
            case measure => simp [intOf]; omega
          · have i1 : ¬ (i : Int) + 1 < (ys.length : Int) := by omega
            have hB := hT.bel
            have H1 := hid h1
            have hcv : ∀ w', Below w.heap.size w w' → (convert 27 9 (.slice p ys.length cap)).run Try.prog w' = .ok (.string (str ys)) w' := fun w' hb => conv_arg (HA.out.keep hb)
            clear r2 r3 hT h1
            go_wp2_with fail
            refine region_held (fun w' => Below w.heap.size w w') 10 rfl (by kernel_rfl) (hB.trans (below_drewN wr 1)) ?_
            intro hHeld
            refine takeO 0 (some 105) (v := ?v1) rfl rfl (by kernel_rfl) (by kernel_rfl) (by kernel_rfl) (Or.inl ⟨by rfl, ?y1⟩) hHeld ?r1
            case y1 => (intro w' hSw; (try dsimp only at hSw); go_simp; try with_reducible rfl)
            try simp only [Act.put, List.setIfInBounds_toArray, List.set_cons_zero, List.set_cons_succ]
            refine takeO 1 (some 106) (v := ?v2) rfl rfl (by kernel_rfl) (by kernel_rfl) (by kernel_rfl) (Or.inl ⟨by rfl, ?y2⟩) hHeld ?r2
            case y2 => (intro w' hSw; (try dsimp only at hSw); go_simp; try with_reducible rfl)
            try simp only [Act.put, List.setIfInBounds_toArray, List.set_cons_zero, List.set_cons_succ]
            refine takeO 2 (some 107) (v := ?v3) rfl rfl (by kernel_rfl) (by kernel_rfl) (by kernel_rfl) (Or.inl ⟨by rfl, ?y3⟩) hHeld ?r3
            case y3 => (intro w' hSw; (try dsimp only at hSw); go_simp; try with_reducible rfl)
            try simp only [Act.put, List.setIfInBounds_toArray, List.set_cons_zero, List.set_cons_succ]
            refine takeO 5 (some 110) (v := ?v4) rfl rfl (by kernel_rfl) (by kernel_rfl) (by kernel_rfl) (Or.inl ⟨by rfl, ?y4⟩) hHeld ?r4
            case y4 => (intro w' hSw; (try dsimp only at hSw); go_simp; try with_reducible rfl)
            try simp only [Act.put, List.setIfInBounds_toArray, List.set_cons_zero, List.set_cons_succ]
            refine takeO 6 (some 111) (v := ?v5) rfl rfl (by kernel_rfl) (by kernel_rfl) (by kernel_rfl) (Or.inl ⟨by rfl, ?y5⟩) hHeld ?r5
            case y5 => (intro w' hSw; (try dsimp only at hSw); go_simp; try with_reducible rfl)
            try simp only [Act.put, List.setIfInBounds_toArray, List.set_cons_zero, List.set_cons_succ]
            refine wpAnyH_ready (rs := [3]) (by kernel_rfl) (by simp) ?_
            refine AllReadyH.cons rfl (fun K hK => ?_) AllReadyH.nil
            go_simp
            refine (bytesW S1 A _ _ (H1.out.below (below_drewN wr 1)) (by rw [unpack_length]; omega)).mono ?_
            rintro e w7 ⟨⟨v7, zs, f7, rfl, hr7, hp7⟩, b7⟩
            have hp0 : Packs ys 0 (unpack ys) := ⟨by simp, by omega, hy⟩
            obtain rfl := hp7.uniq hp0
            obtain ⟨p7, cap7, rfl, _⟩ := hr7.arg
            have cv7 := conv_row hr7
            have hB7 := hHeld.trans (b7.mono hHeld.size)
            dsimp only
            refine hK.out _ _ hB7 (fun hHeld => ?_)
            clear hK K
            refine wpAnyH_ready (rs := [4]) (by kernel_rfl) (by simp) ?_
            refine AllReadyH.cons rfl (fun K hK => ?_) AllReadyH.nil
            go_simp
            refine hK.out _ _ hB7 (fun hHeld => ?_)
            clear hK K
            refine takeO 7 (some 112) (v := ?v6) rfl rfl (by kernel_rfl) (by kernel_rfl) (by kernel_rfl) (Or.inl ⟨by rfl, ?y6⟩) hHeld ?r6
            case y6 => (intro w' hSw; (try dsimp only at hSw); go_simp; try with_reducible rfl)
            try simp only [Act.put, List.setIfInBounds_toArray, List.set_cons_zero, List.set_cons_succ]
            refine takeO 8 (some 113) (v := ?v7) rfl rfl (by kernel_rfl) (by kernel_rfl) (by kernel_rfl) (Or.inl ⟨by rfl, ?y7⟩) hHeld ?r7
            case y7 => (intro w' hSw; (try dsimp only at hSw); go_simp; try with_reducible rfl)
            try simp only [Act.put, List.setIfInBounds_toArray, List.set_cons_zero, List.set_cons_succ]
            refine takeO 9 (some 2) (v := ?v8) rfl rfl (by kernel_rfl) (by kernel_rfl) (by kernel_rfl) (Or.inl ⟨by rfl, ?y8⟩) hHeld ?r8
            case y8 => (intro w' hSw; (try dsimp only at hSw); go_simp; try with_reducible rfl)
            try simp only [Act.put, List.setIfInBounds_toArray, List.set_cons_zero, List.set_cons_succ]
            refine wpAnyH_done (by kernel_rfl) (Only.on ?_) _
            go_wp2
            go_ret
            exact ⟨rfl, hB7⟩
  case inr =>
    first | rw [← hN'] | (have e5 : (200 : Nat) = ys.length := hN'.symm; rw [e5])
    have hcap : ys.length ≤ cap := by omega
    have hl200 : ys.length ≤ 200 := by omega
    clear hsh hN' hyl
    have h0 := writer_new w0
    have hB1 : Below w.heap.size w (w0.alloc (.cells #[.slice none 0 0, .int .i64 0] 47)) := hB0.alloc hB0.size _
    have hf0 : From w.heap.size (fun k => k = w0.heap.size) := ⟨fun k e => by have := hB0.size; omega⟩
    generalize w0.alloc (.cells #[.slice none 0 0, .int .i64 0] 47) = w1 at *
    obtain ⟨A, hA⟩ : ∃ A, w0.heap.size = A := ⟨_, rfl⟩
    rw [hA] at h0 hf0 ⊢
    generalize (fun k => k = A) = S0 at h0 hf0
    clear hA
    go_loopw [5] (fun i wr => ∃ (k : Nat) (S1 : Nat → Prop), i = .int .i64 k ∧ k ≤ ys.length ∧ WrAt wr S1 A (unpack (ys.take k)) ∧ Below w.heap.size w wr ∧ From w.heap.size S1) (fun i _ => ys.length - (intOf i).toNat)
    case atStart => exact ⟨0, S0, rfl, Nat.zero_le _, h0, hB1, hf0⟩
    case round =>
      obtain ⟨k, S1, rfl, hk, h1, hB, hf⟩ := hrel
      clear h0 hf0 hB1 hB0
      by_cases hlt : k < ys.length
      · have i1 : (k : Int) < (ys.length : Int) := by omega
        obtain ⟨ab, ao, rfl, _, hcs⟩ := (HA.out.keep hB).at (i := k) (by omega)
        have c1 := hcs k (by omega)
        have hpu := put S1 A _ (ys.getD k 0) 8 wr h1 (by rw [unpack_length, List.length_take]; omega)
        rw [show cnt 8 = 8 from rfl, ← unpack_snoc, ← take_snoc ys hlt] at hpu
        obtain ⟨yk, hyk⟩ : ∃ yk, ys.getD k 0 = yk := ⟨_, rfl⟩
        have hy8 := getD_byte hy k
        have hwk := wrap_u64 (n := yk) (by omega)
        rw [hyk] at c1 hpu hy8
        clear hcs h1 hyk
        go_wp2_with fail
        refine hpu.mono ?_
        rintro e w2 ⟨rfl, S2, h2, f2, s2⟩
        have hB2 := hB.trans (f2.below hB.size hf.le)
        have hf2 := hf.step s2 hB.size
        clear hpu f2 s2
        go_wp2_with fail
        go_roundw
        case rel => exact ⟨k + 1, S2, by go_num, by omega, h2, hB2, hf2⟩
        case measure => simp [intOf]; omega
      · obtain rfl : k = ys.length := by omega
        have i1 : ¬ (ys.length : Int) < (ys.length : Int) := by omega
        rw [List.take_length] at h1
        have H1 := hid h1
        clear h1
        go_wp2_with fail
        refine (HNR.out wr hB).mono ?_
        rintro e w2 ⟨⟨x2, S2, rfl, r2, f2⟩, b2⟩
        have hB2 := hB.trans (b2.mono hB.size)
        go_wp2_with fail
        refine (HNR.out w2 hB2).mono ?_
        rintro e w3 ⟨⟨x3, S3, rfl, r3, f3⟩, b3⟩
        have hB3 := hB2.trans (b3.mono hB2.size)
        have hT : Three w.heap.size w w3 S1 S2 S3 := ⟨hB3, hB3.size, fun k h1 h2 => by have := H1.out.lt k h1; have := f2.le k h2; omega, fun k h1 h2 => by have := H1.out.lt k h1; have := f3.le k h2; have := b2.size; omega, fun k h1 h2 => by have := r2.lt k h1; have := f3.le k h2; omega, hf, ⟨fun k hk => Nat.le_trans hB.size (f2.le k hk)⟩, ⟨fun k hk => Nat.le_trans hB2.size (f3.le k hk)⟩⟩
        have HT := hid hT; have Q1 := hid (H1.out.below (btrans b2 b3)); have Q2 := hid (r2.below b3); have Q3 := hid r3
        clear r2 r3 f2 f3 b2 b3 hB2 hB3 hT H1 HNR hf hB
        go_wp2_with fail
        go_loopw [8] (fun i wr => ∃ (k : Nat), i = .int .i64 ((2 * k : Nat) : Int) ∧ 2 * k ≤ ys.length ∧ WrAt wr S1 A (unpack ys) ∧ RdAt wr S2 x2 (unpack (ys.drop (2 * k))) ∧ RdAt wr S3 x3 (unpack (ys.drop (2 * k))) ∧ Three w.heap.size w wr S1 S2 S3) (fun i _ => ys.length - (intOf i).toNat)
        case atStart => exact ⟨0, rfl, Nat.zero_le _, Q1.out, Q2.out, Q3.out, HT.out⟩
        case round =>
          obtain ⟨k, rfl, hk, h1, r2, r3, hT⟩ := hrel
          clear HT Q1 Q2 Q3
          obtain ⟨i, hi⟩ : ∃ i, 2 * k = i := ⟨_, rfl⟩
          have HI := hid (show 2 * (k + 1) = i + 2 by omega)
          rw [hi] at hk r2 r3 ⊢
          clear hi
          by_cases hlt : i + 1 < ys.length
          · have i1 : (i : Int) + 1 < (ys.length : Int) := by omega
            have i2 : (i : Int) < (ys.length : Int) := by omega
            obtain ⟨ab, ao, rfl, _, hcs⟩ := (HA.out.keep hT.bel).at (i := i) (by omega)
            have hd1 : unpack (ys.drop i) = low (ys.getD i 0) 8 ++ (low (ys.getD (i + 1) 0) 8 ++ unpack (ys.drop (i + 2))) := by
              rw [drop_cons ys (show i < ys.length by omega), unpack_cons, drop_cons ys hlt, unpack_cons]
            rw [hd1] at r2 r3
            obtain ⟨rr, hrr⟩ : ∃ rr, unpack (ys.drop (i + 2)) = rr := ⟨_, rfl⟩
            rw [hrr] at r2 r3
            have HRR := hid hrr
            have hb1 := getD_byte hy i
            have hb2 := getD_byte hy (i + 1)
            obtain ⟨y1, hy1⟩ : ∃ y1, ys.getD i 0 = y1 := ⟨_, rfl⟩
            obtain ⟨y2, hy2⟩ : ∃ y2, ys.getD (i + 1) 0 = y2 := ⟨_, rfl⟩
            have HCS := hid hcs
            have HY1 := hid hy1; have HY2 := hid hy2
            rw [hy1] at r2 r3 hb1
            rw [hy2] at r2 r3 hb2
            have hg1 := getR S2 x2 _ 8 wr r2
            rw [show cnt 8 = 8 from rfl, (get8 hb1).1, (get8 hb1).2.1, (get8 hb1).2.2] at hg1
            have H1 := hid h1; have R3 := hid r3; have HT := hid hT
            clear hcs hd1 hrr hy1 hy2 h1 r2 r3 hT
            go_wp2_with fail
            refine hg1.mono ?_
            rintro e w4 ⟨rfl, r4, f4⟩
            have hg2 := getR S2 x2 _ 8 w4 r4
            rw [show cnt 8 = 8 from rfl, (get8 hb2).1, (get8 hb2).2.1, (get8 hb2).2.2] at hg2
            have H4 := hid (H1.out.keep f4 HT.out.d12)
            have R5 := hid (R3.out.keep f4 (fun k a b => HT.out.d23 k b a))
            have HT4 := hid (HT.out.rot.step f4)
            clear hg1 r4 H1 R3 HT f4
            go_wp2_with fail
            refine hg2.mono ?_
            rintro e w5 ⟨rfl, r6, f6⟩
            have R6 := hid r6
            have H5 := hid (H4.out.keep f6 (fun k a b => HT4.out.d13 k b a))
            have R7 := hid (R5.out.keep f6 (fun k a b => HT4.out.d12 k b a))
            have HT5 := hid (HT4.out.step f6).rot
            have hg3 := getR S3 x3 _ 16 w5 R7.out
            rw [show cnt 16 = 16 from rfl, (get16 hb1 hb2).1, (get16 hb1 hb2).2.1, (get16 hb1 hb2).2.2] at hg3
            clear hg2 r6 H4 R5 HT4 f6
            go_wp2_with fail
            refine hg3.mono ?_
            rintro e w6 ⟨rfl, r8, f8⟩
            have HT6 := hid (HT5.out.step f8).rot
            have H6 := hid (H5.out.keep f8 (fun k a b => HT5.out.d12 k b a))
            have R9 := hid (R6.out.keep f8 (fun k a b => HT5.out.d13 k b a))
            have R8 := hid r8
            obtain ⟨ab2, ao2, hab, _, hcs2⟩ := (HA.out.keep HT6.out.bel).at (i := i) (by omega)
            cases hab
            have c1 := hcs2 i (by omega)
            have c2 := hcs2 (i + 1) hlt
            rw [HY1.out] at c1
            rw [HY2.out] at c2
            have c3 := c2
            rw [← Nat.add_assoc] at c3
            have q1 := wrap_u64 (n := y1) (by omega)
            have q2 := wrap_u64 (n := y2) (by omega)
            have q3 := or16 hb1 hb2
            have q4 : IntKind.u64.wrap ((y1 : Int) * 256) = (y1 : Int) * 256 := by
              rw [show (y1 : Int) * 256 = ((y1 * 256 : Nat) : Int) by omega]; exact wrap_u64 (by omega)
            clear hg3 hcs2 r8 H5 R6 R7 HT5 f8 HCS HY1 HY2
            go_wp2_with fail
            go_roundw
            case rel => exact ⟨k + 1, by rw [HI.out]; go_num, by rw [HI.out]; omega, H6.out, by rw [HI.out, HRR.out]; exact R9.out, by rw [HI.out, HRR.out]; exact R8.out, HT6.out⟩
            case measure => simp [intOf]; omega
          · have i1 : ¬ (i : Int) + 1 < (ys.length : Int) := by omega
            have hB := hT.bel
            have H1 := hid h1
            have hcv : ∀ w', Below w.heap.size w w' → (convert 27 9 (.slice p ys.length cap)).run Try.prog w' = .ok (.string (str ys)) w' := fun w' hb => conv_arg (HA.out.keep hb)
            clear r2 r3 hT h1
            go_wp2_with fail
            refine region_held (fun w' => Below w.heap.size w w') 10 rfl (by kernel_rfl) (hB.trans (below_drewN wr 1)) ?_
            intro hHeld
            refine takeO 0 (some 105) (v := ?v9) rfl rfl (by kernel_rfl) (by kernel_rfl) (by kernel_rfl) (Or.inl ⟨by rfl, ?y9⟩) hHeld ?r9
            case y9 => (intro w' hSw; (try dsimp only at hSw); go_simp; try with_reducible rfl)
            try simp only [Act.put, List.setIfInBounds_toArray, List.set_cons_zero, List.set_cons_succ]
            refine takeO 1 (some 106) (v := ?v10) rfl rfl (by kernel_rfl) (by kernel_rfl) (by kernel_rfl) (Or.inl ⟨by rfl, ?y10⟩) hHeld ?r10
            case y10 => (intro w' hSw; (try dsimp only at hSw); go_simp; try with_reducible rfl)
            try simp only [Act.put, List.setIfInBounds_toArray, List.set_cons_zero, List.set_cons_succ]
            refine takeO 2 (some 107) (v := ?v11) rfl rfl (by kernel_rfl) (by kernel_rfl) (by kernel_rfl) (Or.inl ⟨by rfl, ?y11⟩) hHeld ?r11
            case y11 => (intro w' hSw; (try dsimp only at hSw); go_simp; try with_reducible rfl)
            try simp only [Act.put, List.setIfInBounds_toArray, List.set_cons_zero, List.set_cons_succ]
            refine takeO 5 (some 110) (v := ?v12) rfl rfl (by kernel_rfl) (by kernel_rfl) (by kernel_rfl) (Or.inl ⟨by rfl, ?y12⟩) hHeld ?r12
            case y12 => (intro w' hSw; (try dsimp only at hSw); go_simp; try with_reducible rfl)
            try simp only [Act.put, List.setIfInBounds_toArray, List.set_cons_zero, List.set_cons_succ]
            refine takeO 6 (some 111) (v := ?v13) rfl rfl (by kernel_rfl) (by kernel_rfl) (by kernel_rfl) (Or.inl ⟨by rfl, ?y13⟩) hHeld ?r13
            case y13 => (intro w' hSw; (try dsimp only at hSw); go_simp; try with_reducible rfl)
            try simp only [Act.put, List.setIfInBounds_toArray, List.set_cons_zero, List.set_cons_succ]
            refine wpAnyH_ready (rs := [3]) (by kernel_rfl) (by simp) ?_
            refine AllReadyH.cons rfl (fun K hK => ?_) AllReadyH.nil
            go_simp
            refine (bytesW S1 A _ _ (H1.out.below (below_drewN wr 1)) (by rw [unpack_length]; omega)).mono ?_
            rintro e w7 ⟨⟨v7, zs, f7, rfl, hr7, hp7⟩, b7⟩
            have hp0 : Packs ys 0 (unpack ys) := ⟨by simp, by omega, hy⟩
            obtain rfl := hp7.uniq hp0
            obtain ⟨p7, cap7, rfl, _⟩ := hr7.arg
            have cv7 := conv_row hr7
            have hB7 := hHeld.trans (b7.mono hHeld.size)
            dsimp only
            refine hK.out _ _ hB7 (fun hHeld => ?_)
            clear hK K
            refine wpAnyH_ready (rs := [4]) (by kernel_rfl) (by simp) ?_
            refine AllReadyH.cons rfl (fun K hK => ?_) AllReadyH.nil
            go_simp
            refine hK.out _ _ hB7 (fun hHeld => ?_)
            clear hK K
            refine takeO 7 (some 112) (v := ?v14) rfl rfl (by kernel_rfl) (by kernel_rfl) (by kernel_rfl) (Or.inl ⟨by rfl, ?y14⟩) hHeld ?r14
            case y14 => (intro w' hSw; (try dsimp only at hSw); go_simp; try with_reducible rfl)
            try simp only [Act.put, List.setIfInBounds_toArray, List.set_cons_zero, List.set_cons_succ]
            refine takeO 8 (some 113) (v := ?v15) rfl rfl (by kernel_rfl) (by kernel_rfl) (by kernel_rfl) (Or.inl ⟨by rfl, ?y15⟩) hHeld ?r15
            case y15 => (intro w' hSw; (try dsimp only at hSw); go_simp; try with_reducible rfl)
            try simp only [Act.put, List.setIfInBounds_toArray, List.set_cons_zero, List.set_cons_succ]
            refine takeO 9 (some 2) (v := ?v16) rfl rfl (by kernel_rfl) (by kernel_rfl) (by kernel_rfl) (Or.inl ⟨by rfl, ?y16⟩) hHeld ?r16
            case y16 => (intro w' hSw; (try dsimp only at hSw); go_simp; try with_reducible rfl)
            try simp only [Act.put, List.setIfInBounds_toArray, List.set_cons_zero, List.set_cons_succ]
            refine wpAnyH_done (by kernel_rfl) (Only.on ?_) _
            go_wp2
            go_ret
            exact ⟨rfl, hB7⟩
end Go.Proofs.Ytnaeloapajhpfaa
