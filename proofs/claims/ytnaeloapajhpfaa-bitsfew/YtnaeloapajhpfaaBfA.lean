/- Layer 3 (bits): the walk of the law BitsFew. -/
import Derived.Test.YtnaeloapajhpfaaBtI
namespace Go.Proofs.Ytnaeloapajhpfaa
open Go.RowKit Go.Shelf
set_option linter.unusedVariables false

theorem low_head (n c : Nat) (h : 0 < c) : (low n c).head? = some (n.testBit (c - 1)) := by
  cases c with
  | zero => omega
  | succ c => rfl
/-- The number of the lowest bits, with their sign. -/
theorem sgn_low (N s : Nat) (hs : 0 < s) : ∃ X : Nat, N % 2 ^ s = X ∧ ((X < 2 ^ (s - 1) ∧ sgn (low N s) = X) ∨ (2 ^ (s - 1) ≤ X ∧ X < 2 ^ s ∧ sgn (low N s) = (X : Int) - 2 ^ s)) := by
  refine ⟨_, rfl, ?_⟩
  obtain ⟨t, rfl⟩ : ∃ t, s = t + 1 := ⟨s - 1, by omega⟩
  unfold sgn
  rw [low_length, val_low, low_head _ _ hs]
  have h1 := mod_succ N t
  have h2 := Nat.mod_lt N (Nat.pow_pos (n := t) (show 0 < 2 by decide))
  have h3 := Nat.mod_lt N (Nat.pow_pos (n := t + 1) (show 0 < 2 by decide))
  rw [show t + 1 - 1 = t by omega]
  cases hb : N.testBit t
  · left
    rw [hb] at h1
    simp at h1
    rw [if_neg (by simp)]
    exact ⟨by omega, by simp⟩
  · right
    rw [hb] at h1
    simp at h1
    rw [if_pos rfl]
    exact ⟨by omega, h3, rfl⟩
theorem u64_wrap (n : Int) : ∃ N : Nat, IntKind.u64.wrap n = (N : Int) ∧ N < 2 ^ 64 ∧ (N : Int) = n % 2 ^ 64 := by
  refine ⟨(n % 2 ^ 64).toNat, ?_, by omega, by omega⟩
  unfold IntKind.wrap
  simp only [IntKind.signed, Bool.false_and, IntKind.bits]
  rw [if_neg (by simp)]
  omega
theorem and_mask (N s : Nat) (hs : s ≤ 63) (hN : N < 2 ^ 64) : bits .and .u64 (N : Int) (((2 ^ s - 1 : Nat) : Int)) = ((N % 2 ^ s : Nat) : Int) := by
  have hlt : 2 ^ s ≤ 2 ^ 63 := Nat.pow_le_pow_right (by decide) hs
  rw [bits_and_u64, Nat.mod_eq_of_lt hN, Nat.mod_eq_of_lt (by omega), Nat.and_two_pow_sub_one_eq_mod]
theorem mod_of_mod (N s : Nat) (n : Int) (hs : s ≤ 64) (h : (N : Int) = n % 2 ^ 64) : ((N % 2 ^ s : Nat) : Int) = n % ((2 ^ s : Nat) : Int) := by
  rw [Int.natCast_emod, h]
  have hd : (((2 ^ s : Nat)) : Int) ∣ ((2 ^ 64 : Nat) : Int) := Int.natCast_dvd_natCast.2 (Nat.pow_dvd_pow 2 hs)
  exact Int.emod_emod_of_dvd _ hd
theorem few_facts {n y : Int} {N X Y s t : Nat} (ht : s = t + 1) (ht62 : t ≤ 62) (hN : N < 2 ^ 64) (hY : Y < 2 ^ 64) (hNm : (N : Int) = n % 2 ^ 64) (hYm : (Y : Int) = y % 2 ^ 64) (hX : N % 2 ^ s = X)
    (hXc : (X < 2 ^ (s - 1) ∧ y = X) ∨ (2 ^ (s - 1) ≤ X ∧ X < 2 ^ s ∧ y = (X : Int) - 2 ^ s)) :
    ∃ h M K : Nat, wrap64 (2 ^ t) = (h : Int) ∧ wrap64 (-(h : Int)) = -(h : Int) ∧ IntKind.u64.wrap (2 ^ s) = (M : Int) ∧ IntKind.u64.wrap ((M : Int) - 1) = (K : Int) ∧ bits .and .u64 (N : Int) (K : Int) = (X : Int) ∧ bits .and .u64 (Y : Int) (K : Int) = (X : Int) ∧ -(h : Int) ≤ y ∧ y < (h : Int) ∧
      ((y = n ∧ -(h : Int) ≤ n ∧ n < (h : Int)) ∨ (y ≠ n ∧ n < -(h : Int)) ∨ (y ≠ n ∧ -(h : Int) ≤ n ∧ (h : Int) ≤ n)) := by
  subst ht
  rw [show t + 1 - 1 = t by omega] at hXc
  have hp : 2 ^ (t + 1) = 2 * 2 ^ t := by rw [Nat.pow_succ, Nat.mul_comm]
  have hle : 2 ^ t ≤ 2 ^ 62 := Nat.pow_le_pow_right (by decide) ht62
  have hpos : 0 < 2 ^ t := Nat.pow_pos (by decide)
  have c1 : ((2 : Int) ^ t) = ((2 ^ t : Nat) : Int) := by rw [Int.natCast_pow]; rfl
  have c2 : ((2 : Int) ^ (t + 1)) = ((2 ^ (t + 1) : Nat) : Int) := by rw [Int.natCast_pow]; rfl
  have h1 := mod_of_mod N (t + 1) n (by omega) hNm
  have h2 := mod_of_mod Y (t + 1) y (by omega) hYm
  have h3 := and_mask N (t + 1) (by omega) hN
  have h4 := and_mask Y (t + 1) (by omega) hY
  rw [c2] at hXc
  rw [hX] at h1 h3
  rw [hp] at h1 h2 h3 h4 hXc c2
  have hyX : y % ((2 * 2 ^ t : Nat) : Int) = (X : Int) := by
    rcases hXc with ⟨ha, hb⟩ | ⟨ha, hb, hc⟩
    · rw [hb]; exact Int.emod_eq_of_lt (by omega) (by omega)
    · rw [hc, Int.sub_emod_right]; exact Int.emod_eq_of_lt (by omega) (by omega)
  rw [hyX] at h2
  have h5 : Y % (2 * 2 ^ t) = X := by omega
  rw [h5] at h4
  generalize 2 ^ t = h at *
  refine ⟨h, 2 * h, 2 * h - 1, ?_, ?_, ?_, ?_, h3, h4, by omega, by omega, ?_⟩
  · rw [c1]; unfold wrap64; omega
  · unfold wrap64; omega
  · rw [c2]; exact wrap_u64 (by omega)
  · rw [show ((2 * h : Nat) : Int) - 1 = ((2 * h - 1 : Nat) : Int) by omega]; exact wrap_u64 (by omega)
  · by_cases hyn : y = n
    · left; omega
    · right
      have hfit : n < -(h : Int) ∨ (h : Int) ≤ n := by
        rcases Int.lt_or_le n (-(h : Int)) with hl | hl
        · exact .inl hl
        · right
          rcases Int.lt_or_le n h with hl2 | hl2
          · exfalso
            apply hyn
            rcases Int.lt_or_le n 0 with hn | hn
            · have e : n % ((2 * h : Nat) : Int) = n + ((2 * h : Nat) : Int) := by
                rw [← Int.add_emod_right]; exact Int.emod_eq_of_lt (by omega) (by omega)
              omega
            · have e : n % ((2 * h : Nat) : Int) = n := Int.emod_eq_of_lt hn (by omega)
              omega
          · exact hl2
      rcases hfit with h6 | h6
      · exact .inl ⟨hyn, h6⟩
      · exact .inr ⟨hyn, by omega, h6⟩
set_option maxRecDepth 100000 in
set_option maxHeartbeats 4000000 in
theorem bitsFew_walk (n size : Int) (w : World) (wn : (Lit.int .i64 n).wf = true) (ws : (Lit.int .i64 size).wf = true) :
    Calls Try.prog 8 #[.int .i64 n, .int .i64 size] w fun e w' => e = .returned (.bool true) ∧ Below w.heap.size w w' := by
  obtain ⟨q, hq, hqe⟩ := mask (m := 65535) (x := size) (k := 16) rfl (by decide)
  obtain ⟨s, hs⟩ : ∃ s : Nat, 1 + q % 63 = s := ⟨_, rfl⟩
  have hs1 : 1 ≤ s ∧ s ≤ 63 := by omega
  have hse : (1 : Int) + (q : Int) % 63 = (s : Int) := by omega
  obtain ⟨N, hNe, hN, hNm⟩ := u64_wrap n
  obtain ⟨X, hX, hXc⟩ := sgn_low N s (by omega)
  obtain ⟨y, hy⟩ : ∃ y, sgn (low N s) = y := ⟨_, rfl⟩
  rw [hy] at hXc
  obtain ⟨Y, hYe, hY, hYm⟩ := u64_wrap y
  have hsh := shown w
  have HXC := hid hXc; have HX := hid hX; have HY := hid hy; have HNM := hid hNm; have HYM := hid hYm
  clear wn ws hs hXc hX hy hNm hYm
  go_enter Try.func8, Try.ntmps8
  go_wp2_with (go_at_call 11; refine hsh.mono ?_; rintro e w0 ⟨rfl, hB0⟩)
  clear hsh
  have h0 := writer_new w0
  have hB1 : Below w.heap.size w (w0.alloc (.cells #[.slice none 0 0, .int .i64 0] 47)) := hB0.alloc hB0.size _
  have hf0 : From w.heap.size (fun k => k = w0.heap.size) := ⟨fun k e => by have := hB0.size; omega⟩
  generalize w0.alloc (.cells #[.slice none 0 0, .int .i64 0] 47) = w1 at *
  obtain ⟨A, hA⟩ : ∃ A, w0.heap.size = A := ⟨_, rfl⟩
  rw [hA] at h0 hf0 ⊢
  clear hB0 hA
  refine (put _ A [] N s w1 h0 (by simp)).mono ?_
  rintro e w2 ⟨rfl, S2, h2, f2, s2⟩
  have hB2 := hB1.trans (f2.below hB1.size hf0.le)
  have hf2 := hf0.step s2 hB1.size
  rw [cnt_nat (by omega), List.nil_append] at h2
  clear h0 f2 s2 hf0 hB1 w0 w1
  go_wp2_with fail
  refine (signW S2 A _ N n s w2 h2 (by rw [low_length]; omega) hNe).mono ?_
  rintro e w3 ⟨rfl, S3, h3, f3, s3⟩
  have hB3 := hB2.trans (f3.below hB2.size hf2.le)
  rw [cnt_nat (by omega)] at h3
  clear h2 f3 s3 hf2 hB2 w2
  go_wp2_with fail
  refine (bytesW S3 A _ w3 h3 (by rw [List.length_append, low_length]; omega)).mono ?_
  rintro e w4 ⟨⟨v4, ys, f, rfl, hr4, hp4⟩, b4⟩
  have hB4 := hB3.trans (b4.mono hB3.size)
  obtain ⟨p4, cap4, rfl, ha4⟩ := hr4.arg
  have hlen : ys.length ≤ 100 := by have h1 := hp4.len; have h2 := hp4.few; rw [List.length_append, low_length] at h1; omega
  have HP := hid hp4
  clear h3 hr4 b4 hB3
  go_wp2_with fail
  refine (newReader p4 cap4 ys w4 ha4 HP.out.byte (by omega)).mono ?_
  rintro e w5 ⟨⟨r, S5, rfl, hr5, hf5⟩, b5⟩
  have hB5 := hB4.trans (b5.mono hB4.size)
  rw [HP.out.bits, List.append_assoc] at hr5
  have hg := get_yes S5 r _ s w5 hr5 (by rw [cnt_nat (by omega), List.length_append, low_length]; omega)
  rw [cnt_nat (by omega), List.take_left' (low_length N s), List.drop_left' (low_length N s), val_low, HX.out] at hg
  have hf5' : From w.heap.size S5 := ⟨fun k hk => Nat.le_trans hB4.size (hf5.le k hk)⟩
  clear hr5 ha4 hB4 hf5 b5 HP
  go_wp2_with (first
    | (go_at_call 22; refine hg.mono ?_; rintro e w6 ⟨rfl, hr6, f6⟩)
    | fail)
  have hs6 := sign_yes S5 r _ s w6 hr6 (by rw [cnt_nat (by omega), List.length_append, low_length]; omega)
  rw [cnt_nat (by omega), List.take_left' (low_length N s), List.drop_left' (low_length N s), HY.out] at hs6
  have hB6 := hB5.trans (f6.below hB5.size hf5'.le)
  refine hs6.mono ?_
  rintro e w7 ⟨rfl, hr7, f7⟩
  have hB7 := hB6.trans (f7.below hB6.size hf5'.le)
  clear hs6 hg hr6 hr7 f6 f7 hB5 hB6 hp4 hf5'
  obtain ⟨t, ht⟩ : ∃ t, s = t + 1 := ⟨s - 1, by omega⟩
  have hst : (s : Int) - 1 = (t : Int) := by omega
  have ht62 : t ≤ 62 := by omega
  obtain ⟨h, M, K, e1, e2, e3, e4, e5, e6, e7, e8, hcase⟩ := few_facts ht ht62 hN hY HNM.out HYM.out HX.out HXC.out
  have hs63 := hs1.2
  clear ht HXC HX HY HNM HYM hN hY hse hs1
  rcases hcase with ⟨rfl, k1, k2⟩ | ⟨k0, k1⟩ | ⟨k0, k1, k2⟩
  · go_wp2_with fail
    go_ret
    exact ⟨rfl, hB7⟩
  · have k3 : (y == n) = false := beq_eq_false_iff_ne.2 k0
    clear k0
    go_wp2_with fail
    go_ret
    exact ⟨rfl, hB7⟩
  · have k3 : (y == n) = false := beq_eq_false_iff_ne.2 k0
    have k4 : decide (n < (h : Int)) = false := decide_eq_false (by omega)
    clear k0
    go_wp2_with fail
    go_ret
    exact ⟨rfl, hB7⟩
end Go.Proofs.Ytnaeloapajhpfaa
