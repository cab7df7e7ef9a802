/- Layer 2 (ring): the walk of the law RingTableRoom. -/
import Derived.Test.YtechkkidebkadaaLwA
namespace Go.Proofs.Ytechkkidebkadaa
open Go.RowKit
set_option linter.unusedVariables false
attribute [local go_sem ↓] Go.wp_at_zero Go.wp_at_succ

theorem AllS.snoc {es : List (Nat × Value)} (h : AllS es) (n : Nat) (s : ByteArray) : AllS (es ++ [(n, .string s)]) := by
  intro k hk
  rw [List.length_append] at hk
  by_cases hk2 : k < es.length
  · rw [List.getElem_append_left hk2]; exact h k hk2
  · rw [List.getElem_append_right (by omega)]; exact ⟨s, by simp⟩
theorem AllS.eraseIdx {es : List (Nat × Value)} (h : AllS es) (i : Nat) : AllS (es.eraseIdx i) := by
  intro k hk
  rw [List.length_eraseIdx] at hk
  rw [List.getElem_eraseIdx]
  split
  · exact h k (by split at hk <;> omega)
  · exact h (k + 1) (by split at hk <;> omega)
theorem gone_no {es : List (Nat × Value)} (hr : Rise es) {i : Nat} (hi : i < es.length) {id : Int} (e : (es[i].1 : Int) = id) : ∀ k (hk : k < (es.eraseIdx i).length), ((es.eraseIdx i)[k].1 : Int) ≠ id := by
  intro k hk
  rw [List.length_eraseIdx, if_pos hi] at hk
  rw [List.getElem_eraseIdx]
  split
  · have := hr k i hi (by omega); omega
  · have := hr i (k + 1) (by omega) (by omega); omega
theorem TableAt.rise {T E sz : Nat} {w : World} {S : Nat → Prop} {b m L : Nat} {es : List (Nat × Value)} (h : TableAt T E sz w S b m es L) : Rise es := by
  obtain ⟨v, _, _, _, _, h4, _⟩ := h; exact h4

set_option maxRecDepth 100000 in
set_option maxHeartbeats 2000000 in
theorem ringTableRoom_walk (a : Int) (p : Option Addr) (n cap : Nat) (z : Nat → Int) (w : World) (wf : (Lit.int .i64 a).wf = true) (h : Arg w p n cap fun i => .int .u8 (z i)) (hz : ∀ i, (Lit.int .u8 (z i)).wf = true) :
    Calls Try.prog 10 #[.int .i64 a, .slice p n cap] w fun e w' => e = .returned (.bool true) ∧ Below w.heap.size w w' := by
  obtain ⟨q, hq, hqe⟩ := ffff_nat a
  obtain ⟨m, hm⟩ : ∃ m : Nat, (1 : Int) + (q : Int) % 30 = (m : Int) := ⟨1 + q % 30, by omega⟩
  have hm1 : 1 ≤ m ∧ m ≤ 30 := by omega
  have hle := h.le; have hmost := h.most
  unfold maxLen at hmost
  have H : Hid _ := h
  have HZ : Hid (∀ i, 0 ≤ z i ∧ z i ≤ 255) := fun i => by
    have := hz i
    simp only [Lit.wf, Bool.and_eq_true, decide_eq_true_eq] at this
    exact this
  clear h hz wf
  go_enter Try.func10, Try.ntmps10
  go_wp2_with fail
  refine (shown_any w).mono ?_; rintro e w1 ⟨rfl, hB⟩
  go_wp2_with fail
  refine (tnewS m w1).mono ?_; rintro e w2 ⟨rfl, hw2⟩
  have hT := table_new 100 102 2 w1 m hm1.1 (by omega)
  have hB2 : Below w1.heap.size w1 w2 := by rw [hw2]; exact (Below.refl _ _).alloc (Nat.le_refl _) _
  replace hT : TableAt 100 102 2 w2 (fun k => k = w1.heap.size) w1.heap.size m [] 0 := by
    rw [hw2, show max (m : Int) 1 = (m : Int) by omega]; exact hT
  have hBB := btrans hB hB2
  have hf : From w.heap.size (fun k => k = w1.heap.size) := ⟨fun k h => by have := hB.size; omega⟩
  obtain ⟨b, hb⟩ : ∃ b, w1.heap.size = b := ⟨_, rfl⟩
  rw [hb] at hT hf ⊢
  generalize (fun k => k = b) = S at hT hf
  clear hw2 hB2 hB hb
  go_wp2_with fail
  go_loopw [7] (fun i wr => ∃ (k : Nat) (S' : Nat → Prop) (es : List (Nat × Value)), i = .int .i64 k ∧ k ≤ m ∧ es.length = k ∧ AllS es ∧ TableAt 100 102 2 wr S' b m es k ∧ From w.heap.size S' ∧ Below w.heap.size w wr) (fun i _ => m - (intOf i).toNat)
  case atStart => exact ⟨0, S, [], rfl, Nat.zero_le _, rfl, alls_nil, hT, hf, hBB⟩
  case round =>
    obtain ⟨k, S', es, rfl, hk, hes, ha, hT', hf', hB'⟩ := hrel
    clear hT hf hBB
    by_cases hlt : k < m
    · have hki : (k : Int) < (m : Int) := by omega
      have hP := addS_room S' b m k es ⟨#[97]⟩ wr hT' (by omega) (by omega)
      have HA : Hid _ := ha
      have HE : Hid _ := hes
      clear hT' ha hes
      go_wp2_with fail
      refine hP.mono ?_; rintro e w3 ⟨rfl, S3, hT3, hF3, hs3⟩
      have hB3 := Below.fr hB' hF3 hf' hB'.size
      have hf3 := hf'.step hs3 hB'.size
      clear hP hs3 hF3
      go_wp2_with fail
      go_roundw
      case rel => exact ⟨k + 1, S3, _, by go_num, by omega, by rw [List.length_append, HE.out]; rfl, AllS.snoc HA.out _ _, hT3, hf3, hB3⟩
      case measure => simp [intOf]; omega
    · obtain rfl : k = m := by omega
      have hP := addS_full S' b k k es ⟨#[98]⟩ wr hT' hes
      have HA : Hid _ := ha
      have HE : Hid _ := hes
      have HT : Hid _ := hT'
      clear ha hes hT'
      have hki : ¬ (k : Int) < (k : Int) := by omega
      go_wp2_with fail
      refine hP.mono ?_; rintro e w3 ⟨rfl, b3⟩
      have hT3 := TableAt.below HT.out b3
      have hB3 := hB'.trans (b3.mono hB'.size)
      clear hP
      go_wp2_with fail
      go_loopw [12, 13] (fun g i wr => ∃ (c d : Nat) (S' : Nat → Prop) (es : List (Nat × Value)), g = .int .i64 d ∧ i = .int .i64 c ∧ c ≤ n ∧ c ≤ 60 ∧ es.length + d = k ∧ AllS es ∧ TableAt 100 102 2 wr S' b k es k ∧ From w.heap.size S' ∧ Below w.heap.size w wr) (fun _ i _ => 60 - (intOf i).toNat)
      case atStart => exact ⟨0, 0, S', es, rfl, rfl, Nat.zero_le _, Nat.zero_le _, by rw [HE.out]; rfl, HA.out, hT3, hf', hB3⟩
      case round =>
        obtain ⟨c, d, S4, es4, rfl, rfl, hc, hc6, hes, ha, hT4, hf4, hB4⟩ := hrel
        clear HT HA HE hT3 hB3 hf' hB'
        by_cases hlt : c < n ∧ c < 60
        · have i1 : (c : Int) < (n : Int) := by omega
          have i2 : (c : Int) < 60 := by omega
          obtain ⟨ab, ao, rfl, _, hcs⟩ := (Arg.keep H.out hB4).at (i := c) (by omega)
          have c0 := hcs c (by omega)
          have hz := HZ.out c
          obtain ⟨y, hy⟩ : ∃ y : Nat, z c = (y : Int) := ⟨(z c).toNat, by omega⟩
          rw [hy] at c0 hz
          obtain ⟨r, hr⟩ : ∃ r, y % k = r := ⟨_, rfl⟩
          have e2 : (y : Int).tmod (k : Int) = (r : Int) := by rw [← hr, Int.tmod_eq_emod_of_nonneg (by omega), Int.natCast_emod]
          have e3 : (y : Int) % (k : Int) = (r : Int) := by rw [← hr, Int.natCast_emod]
          have e4 : (0 : Int) < (k : Int) := by omega
          have e5 : ((k : Int) == 0) = false := beq_eq_false_iff_ne.2 (by omega)
          have e6 : r < k := by rw [← hr]; exact Nat.mod_lt _ (by omega)
          clear hcs hr hy
          rcases there_or (es := es4) (1 + (r : Int)) with ⟨j, hj, hid⟩ | hid
          · have hP := dropS_yes S4 b k k es4 _ j hj wr hT4 ha hid
            have hG := gone_no hT4.rise hj hid
            have HG : Hid _ := hG
            have HA : Hid _ := ha
            clear hT4 ha hid hG
            go_wp2_with fail
            refine hP.mono ?_; rintro e w5 ⟨rfl, S5, hT5, hF5, hs5⟩
            have hB5 := Below.fr hB4 hF5 hf4 hB4.size
            have hf5 := hf4.step hs5 hB4.size
            have hQ := putS_no S5 b k k _ _ ⟨#[99]⟩ w5 hT5 (AllS.eraseIdx HA.out j) HG.out
            clear hP hs5 hF5
            go_wp2_with fail
            refine hQ.mono ?_; rintro e w6 ⟨rfl, b6⟩
            have hT6 := hT5.below b6
            have hB6 := hB5.trans (b6.mono hB5.size)
            clear hQ hT5
            go_wp2_with fail
            go_roundw
            case rel => exact ⟨c + 1, d + 1, S5, _, by go_num, by go_num, by omega, by omega, by rw [List.length_eraseIdx, if_pos hj]; omega, AllS.eraseIdx HA.out j, hT6, hf5, hB6⟩
            case measure => simp [intOf]; omega
          · have hP := dropS_no S4 b k k es4 _ wr hT4 ha hid
            have HI : Hid _ := hid
            have HA : Hid _ := ha
            have HT : Hid _ := hT4
            clear hT4 ha hid
            go_wp2_with fail
            refine hP.mono ?_; rintro e w5 ⟨rfl, b5⟩
            have hT5 := TableAt.below HT.out b5
            have hB5 := hB4.trans (b5.mono hB4.size)
            have hQ := putS_no S4 b k k _ _ ⟨#[99]⟩ w5 hT5 HA.out HI.out
            clear hP
            go_wp2_with fail
            refine hQ.mono ?_; rintro e w6 ⟨rfl, b6⟩
            have hT6 := hT5.below b6
            have hB6 := hB5.trans (b6.mono hB5.size)
            clear hQ hT5
            go_wp2_with fail
            go_roundw
            case rel => exact ⟨c + 1, d, S4, es4, by go_num, by go_num, by omega, by omega, hes, HA.out, hT6, hf4, hB6⟩
            case measure => simp [intOf]; omega
        · have HA : Hid _ := ha
          clear ha
          by_cases hcn : c < n
          case' pos => have i2 : ¬ (c : Int) < 60 := by omega
          case' neg => have i2 : ¬ (c : Int) < (n : Int) := by omega
          all_goals
            go_wp2_with fail
            go_loopw [15] (fun i wr => ∃ (k3 : Nat) (S' : Nat → Prop) (es : List (Nat × Value)), i = .int .i64 k3 ∧ k3 ≤ d ∧ es.length + (d - k3) = k ∧ TableAt 100 102 2 wr S' b k es (k + k3) ∧ From w.heap.size S' ∧ Below w.heap.size w wr) (fun i _ => d - (intOf i).toNat)
            case atStart => exact ⟨0, S4, es4, rfl, Nat.zero_le _, by omega, hT4, hf4, hB4⟩
            case round =>
              obtain ⟨k3, S6, es6, rfl, hk3, hes6, hT6, hf6, hB6⟩ := hrel
              clear hT4 hf4 hB4
              by_cases hl3 : k3 < d
              · have i3 : (k3 : Int) < (d : Int) := by omega
                have hP := addS_room S6 b k (k + k3) es6 ⟨#[100]⟩ _ hT6 (by omega) (by omega)
                clear hT6
                go_wp2_with fail
                refine hP.mono ?_; rintro e w7 ⟨rfl, S7, hT7, hF7, hs7⟩
                have hB7 := Below.fr hB6 hF7 hf6 hB6.size
                have hf7 := hf6.step hs7 hB6.size
                clear hP hs7 hF7
                go_wp2_with fail
                go_roundw
                case rel => exact ⟨k3 + 1, S7, _, by go_num, by omega, by rw [List.length_append]; simp; omega, hT7, hf7, hB7⟩
                case measure => simp [intOf]; omega
              · obtain rfl : k3 = d := by omega
                have i3 : ¬ (k3 : Int) < (k3 : Int) := by omega
                have hP := addS_full S6 b k (k + k3) es6 ⟨#[101]⟩ _ hT6 (by omega)
                have HT : Hid _ := hT6
                clear hT6
                go_wp2_with fail
                refine hP.mono ?_; rintro e w7 ⟨rfl, b7⟩
                have hT7 := TableAt.below HT.out b7
                have hB7 := hB6.trans (b7.mono hB6.size)
                have hL := tlenS S6 b k (k + k3) es6 w7 hT7
                rw [show es6.length = k by omega] at hL
                clear hP hT7
                go_wp2_with fail
                refine hL.mono ?_; rintro e w8 ⟨rfl, rfl⟩
                go_wp2_with fail
                go_ret
                exact ⟨rfl, hB7⟩
end Go.Proofs.Ytechkkidebkadaa
