/- Layer 3 (bits): the walk of the law BitsApart. -/
import Derived.Test.YtnaeloapajhpfaaBtJ
namespace Go.Proofs.Ytnaeloapajhpfaa
open Go.RowKit Go.Shelf
set_option linter.unusedVariables false

set_option maxRecDepth 100000 in
set_option maxHeartbeats 4000000 in
theorem bitsApart_walk (p : Option Addr) (n cap : Nat) (z : Nat → Int) (p2 : Option Addr) (n2 cap2 : Nat) (z2 : Nat → Int) (w : World) (h : Arg w p n cap fun i => .int .u8 (z i)) (hz : ∀ i, (Lit.int .u8 (z i)).wf = true) (h2 : Arg w p2 n2 cap2 fun i => .int .u8 (z2 i)) (hz2 : ∀ i, (Lit.int .u8 (z2 i)).wf = true) :
    Calls Try.prog 10 #[.slice p n cap, .slice p2 n2 cap2] w fun e w' => e = .returned (.bool true) ∧ Below w.heap.size w w' := by
  have hle := h.le; have hmost := h.most; have hmost2 := h2.most; have hle2 := h2.le
  obtain ⟨ys, hyl, hy, ha⟩ := h.bytes hz (k := min n 50) (by omega)
  unfold maxLen at hmost hmost2
  have hsh := shown w
  have H2 := hid h2; have HA := hid ha; have HZ2 := hid hz2
  clear h hz h2 hz2 ha
  have hnr := fun W (hb : Below w.heap.size w W) => newReader p cap ys W (HA.out.keep hb) hy (by omega)
  rw [hyl] at hnr
  have HNR := hid hnr
  clear hnr
  go_enter Try.func10, Try.ntmps10
  go_wp2_with (go_at_call 11; refine hsh.mono ?_; rintro e w0 ⟨rfl, hB0⟩)
  case' inl => (obtain ⟨N, hN⟩ : ∃ N, min n 50 = N := ⟨_, rfl⟩; have hN' : N = 50 := by omega)
  case' inr => (obtain ⟨N, hN⟩ : ∃ N, min n 50 = N := ⟨_, rfl⟩; have hN' : N = n := by omega)
  all_goals
    first | rw [← hN'] | (have e5 : (50 : Nat) = N := hN'.symm; rw [e5])
    have hnr := HNR.out
    rw [hN] at hnr
    clear HNR hyl hN' hN hsh HA
    refine (hnr w0 hB0).mono ?_
    rintro e w1 ⟨⟨x1, S1, rfl, r1, f1⟩, b1⟩
    have hB1 := hB0.trans (b1.mono hB0.size)
    go_wp2_with fail
    refine (hnr w1 hB1).mono ?_
    rintro e w2 ⟨⟨x2, S2, rfl, r2, f2⟩, b2⟩
    have hB2 := hB1.trans (b2.mono hB1.size)
    go_wp2_with fail
    refine (hnr w2 hB2).mono ?_
    rintro e w3 ⟨⟨x3, S3, rfl, r3, f3⟩, b3⟩
    have hB3 := hB2.trans (b3.mono hB2.size)
    have hT : Three w.heap.size w w3 S1 S2 S3 := ⟨hB3, hB3.size, fun k h1 h2 => by have := r1.lt k h1; have := f2.le k h2; omega, fun k h1 h2 => by have := r1.lt k h1; have := f3.le k h2; have := b2.size; omega, fun k h1 h2 => by have := r2.lt k h1; have := f3.le k h2; omega, ⟨fun k hk => Nat.le_trans hB0.size (f1.le k hk)⟩, ⟨fun k hk => Nat.le_trans hB1.size (f2.le k hk)⟩, ⟨fun k hk => Nat.le_trans hB2.size (f3.le k hk)⟩⟩
    have q1 := r1.below (btrans b2 b3)
    have q2 := r2.below b3
    have HT := hid hT; have Q1 := hid q1; have Q2 := hid q2; have Q3 := hid r3
    clear hnr r1 r2 r3 f1 f2 f3 b1 b2 b3 hB0 hB1 hB2 hB3 hT q1 q2 hy
    go_wp2_with fail
    go_loopw [9] (fun i wr => ∃ (k : Nat) (rs rs' : List Bool), i = .int .i64 k ∧ k ≤ min n2 60 ∧ RdAt wr S1 x1 rs ∧ RdAt wr S2 x2 rs' ∧ RdAt wr S3 x3 rs ∧ Three w.heap.size w wr S1 S2 S3) (fun i _ => 60 - (intOf i).toNat)
    case atStart => exact ⟨0, _, _, rfl, Nat.zero_le _, Q1.out, Q2.out, Q3.out, HT.out⟩
    case round =>
      obtain ⟨k, rs, rs', rfl, hk, r1, r2, r3, hT⟩ := hrel
      clear HT Q1 Q2 Q3
      by_cases hlt : k < min n2 60
      · have i1 : (k : Int) < (n2 : Int) := by omega
        have i2 : (k : Int) < 60 := by omega
        obtain ⟨ab, ao, rfl, _, hcs⟩ := (H2.out.keep hT.bel).at (i := k) (by omega)
        have c1 := hcs k (by omega)
        obtain ⟨q, hq, hqe⟩ := b15 (HZ2.out k)
        have hg1 := getR S1 x1 rs (q : Int) wr r1
        rw [cnt_nat (by omega)] at hg1
        obtain ⟨vv, hvv⟩ : ∃ vv, gotV rs q = vv := ⟨_, rfl⟩
        obtain ⟨vb, hvb⟩ : ∃ vb, gotB rs q = vb := ⟨_, rfl⟩
        rw [hvv, hvb] at hg1
        have HVV := hid hvv; have HVB := hid hvb
        have R2 := hid r2; have R3 := hid r3; have HT := hid hT
        clear hcs hvv hvb r1 r2 r3 hT
        go_wp2_with fail
        refine hg1.mono ?_
        rintro e w4 ⟨rfl, r4, f4⟩
        have hT4 := HT.out.step f4
        have r5 := R2.out.keep f4 (fun k a b => HT.out.d12 k b a)
        have r6 := R3.out.keep f4 (fun k a b => HT.out.d13 k b a)
        have hg2 := getR S2 x2 rs' (15 - (q : Int)) w4 r5
        have R4 := hid r4; have R6 := hid r6; have HT4 := hid hT4
        clear r4 r5 r6 hT4 HT R2 R3 hg1 f4
        go_wp2_with fail
        refine hg2.mono ?_
        rintro e w5 ⟨rfl, r7, f7⟩
        have hT5 := HT4.out.rot.step f7
        have r8 := R4.out.keep f7 HT4.out.d12
        have r9 := R6.out.keep f7 (fun k a b => HT4.out.d23 k b a)
        have hg3 := getR S3 x3 rs (q : Int) w5 r9
        rw [cnt_nat (by omega), HVV.out, HVB.out] at hg3
        have R7 := hid r7; have R8 := hid r8; have HT5 := hid hT5
        clear r7 r8 r9 hT5 HT4 R4 R6 hg2 f7
        go_wp2_with fail
        refine hg3.mono ?_
        rintro e w6 ⟨rfl, r10, f10⟩
        have hT6 := (HT5.out.rot.step f10).rot
        have r11 := R7.out.keep f10 (fun k a => HT5.out.d12 k a)
        have r12 := R8.out.keep f10 (fun k a b => HT5.out.d23 k b a)
        have R10 := hid r10; have R11 := hid r11; have HT6 := hid hT6; have R12 := hid r12
        have hr1 := restR S1 x1 _ w6 r12
        obtain ⟨vr, hvr⟩ : ∃ vr, restB (gotR rs q) = vr := ⟨_, rfl⟩
        rw [hvr] at hr1
        have HVR := hid hvr
        clear r10 r11 hT6 HT5 R7 R8 hg3 f10 HVV HVB r12 hvr
        go_wp2_with fail
        refine hr1.mono ?_
        rintro e w7 ⟨rfl, r13, b13⟩
        have r14 := R10.out.below b13
        have r15 := R11.out.below b13
        have hT7 := HT6.out.quiet b13
        have hr3 := restR S3 x3 _ w7 r14
        rw [HVR.out] at hr3
        have R13 := hid r13; have R15 := hid r15; have HT7 := hid hT7
        clear r13 r14 r15 hT7 HT6 R10 R11 R12 b13 hr1
        go_wp2_with fail
        refine hr3.mono ?_
        rintro e w8 ⟨rfl, r16, b16⟩
        have r17 := R13.out.below b16
        have r18 := R15.out.below b16
        have hT8 := HT7.out.quiet b16
        have R16 := hid r16; have R17 := hid r17; have R18 := hid r18; have HT8 := hid hT8
        clear r16 r17 r18 hT8 HT7 R13 R15 b16 hr3 HVR
        go_wp2_with fail
        go_roundw
        case rel => exact ⟨k + 1, _, _, by go_num, by omega, R17.out, R18.out, R16.out, HT8.out⟩
        case measure => simp [intOf]; omega
      · have hB := hT.bel
        by_cases h60 : (k : Int) < (n2 : Int)
        · have i2 : ¬ (k : Int) < 60 := by omega
          clear r1 r2 r3 hT
          go_wp2_with fail
          go_ret
          exact ⟨rfl, hB⟩
        · clear r1 r2 r3 hT
          go_wp2_with fail
          go_ret
          exact ⟨rfl, hB⟩
end Go.Proofs.Ytnaeloapajhpfaa
