/- Layer 2 (ring): the walk of the law RingTableOnce. -/
import Derived.Test.YtechkkidebkadaaLwB
import Derived.Test.YtechkkidebkadaaTbN
namespace Go.Proofs.Ytechkkidebkadaa
open Go.RowKit
set_option linter.unusedVariables false
attribute [local go_sem ↓] Go.wp_at_zero Go.wp_at_succ

theorem AllN.snoc {es : List (Nat × Value)} (h : AllN es) (n : Nat) (s : Int) : AllN (es ++ [(n, .int .i64 s)]) := by
  intro k hk
  rw [List.length_append] at hk
  by_cases hk2 : k < es.length
  · rw [List.getElem_append_left hk2]; exact h k hk2
  · rw [List.getElem_append_right (by omega)]; exact ⟨s, by simp⟩
theorem AllN.eraseIdx {es : List (Nat × Value)} (h : AllN es) (i : Nat) : AllN (es.eraseIdx i) := by
  intro k hk
  rw [List.length_eraseIdx] at hk
  rw [List.getElem_eraseIdx]
  split
  · exact h k (by split at hk <;> omega)
  · exact h (k + 1) (by split at hk <;> omega)
theorem alln_nil : AllN [] := fun k hk => absurd hk (by simp)
theorem TableAt.len {T E sz : Nat} {w : World} {S : Nat → Prop} {b m L : Nat} {es : List (Nat × Value)} (h : TableAt T E sz w S b m es L) : es.length ≤ m := by
  obtain ⟨v, _, _, _, h3, _⟩ := h; exact h3

set_option maxRecDepth 100000 in
set_option maxHeartbeats 2000000 in
theorem ringTableOnce_walk (a : Int) (p : Option Addr) (n cap : Nat) (z : Nat → Int) (w : World) (wf : (Lit.int .i64 a).wf = true) (h : Arg w p n cap fun i => .int .i64 (z i)) (hz : ∀ i, (Lit.int .i64 (z i)).wf = true) :
    Calls Try.prog 7 #[.int .i64 a, .slice p n cap] w fun e w' => e = .returned (.bool true) ∧ Below w.heap.size w w' := by
  obtain ⟨q, hq, hqe⟩ := ffff_nat a
  obtain ⟨m, hm⟩ : ∃ m : Nat, (1 : Int) + (q : Int) % 20 = (m : Int) := ⟨1 + q % 20, by omega⟩
  have hm1 : 1 ≤ m ∧ m ≤ 20 := by omega
  have hle := h.le; have hmost := h.most
  unfold maxLen at hmost
  have H : Hid _ := h
  clear h hz wf
  go_enter Try.func7, Try.ntmps7
  go_wp2_with fail
  refine (shown_any w).mono ?_; rintro e w1 ⟨rfl, hB⟩
  go_wp2_with fail
  refine (tnewN m w1).mono ?_; rintro e w2 ⟨rfl, hw2⟩
  have hT := table_new 88 90 2 w1 m hm1.1 (by omega)
  have hB2 : Below w1.heap.size w1 w2 := by rw [hw2]; exact (Below.refl _ _).alloc (Nat.le_refl _) _
  replace hT : TableAt 88 90 2 w2 (fun k => k = w1.heap.size) w1.heap.size m [] 0 := by
    rw [hw2, show max (m : Int) 1 = (m : Int) by omega]; exact hT
  have hBB := btrans hB hB2
  have hf : From w.heap.size (fun k => k = w1.heap.size) := ⟨fun k h => by have := hB.size; omega⟩
  obtain ⟨b, hb⟩ : ∃ b, w1.heap.size = b := ⟨_, rfl⟩
  rw [hb] at hT hf ⊢
  generalize (fun k => k = b) = S at hT hf
  clear hw2 hB2 hB hb hm hqe hq
  go_wp2_with fail
  go_loopw [7, 8] (fun l i wr => ∃ (c L : Nat) (S' : Nat → Prop) (es : List (Nat × Value)), l = .int .i64 L ∧ i = .int .i64 c ∧ c ≤ n ∧ c ≤ 100 ∧ L ≤ c ∧ AllN es ∧ TableAt 88 90 2 wr S' b m es L ∧ From w.heap.size S' ∧ Below w.heap.size w wr) (fun _ i _ => 100 - (intOf i).toNat)
  case atStart => exact ⟨0, 0, S, [], rfl, rfl, Nat.zero_le _, Nat.zero_le _, Nat.le_refl _, alln_nil, hT, hf, hBB⟩
  case round =>
    obtain ⟨c, L, S4, es4, rfl, rfl, hc, hc6, hLc, ha, hT4, hf4, hB4⟩ := hrel
    clear hT hf hBB
    by_cases hlt : c < n ∧ c < 100
    · have i1 : (c : Int) < (n : Int) := by omega
      have i2 : (c : Int) < 100 := by omega
      have hLen := tlenN S4 b m L es4 _ hT4
      have HA : Hid _ := ha
      have hel := hT4.len
      clear ha
      by_cases hrm : es4.length < m
      case' pos =>
        have i3 : (es4.length : Int) < (m : Int) := by omega
        have hP := addN_room S4 b m L es4 c _ hT4 hrm (by omega)
        obtain ⟨L5, hL5⟩ : ∃ L5, L + 1 = L5 := ⟨_, rfl⟩
        rw [hL5] at hP
        have i4 : (L : Int) + 1 = (L5 : Int) := by omega
        have i5 : (L : Int) ≤ (L5 : Int) := by omega
        have hA5 := AllN.snoc HA.out L5 c
        clear hT4
        go_wp2_with fail
        refine hLen.mono ?_; rintro e w5 ⟨rfl, rfl⟩
        clear hLen
        go_wp2_with fail
        refine hP.mono ?_; rintro e w6 ⟨rfl, S6, hT6, hF6, hs6⟩
        have hB6 := Below.fr hB4 hF6 hf4 hB4.size
        have hf6 := hf4.step hs6 hB4.size
        generalize es4 ++ [(L5, Value.int .i64 (c : Int))] = es5 at hA5 hT6
        have hL6 : L5 ≤ c + 1 := by omega
        clear hP hs6 hF6 hL5
      case' neg =>
        have i3 : ¬ (es4.length : Int) < (m : Int) := by omega
        have hP := addN_full S4 b m L es4 c _ hT4 (by omega)
        have HT : Hid _ := hT4
        clear hT4
        go_wp2_with fail
        refine hLen.mono ?_; rintro e w5 ⟨rfl, rfl⟩
        clear hLen
        go_wp2_with fail
        refine hP.mono ?_; rintro e w6 ⟨rfl, b6⟩
        have hB6 := hB4.trans (b6.mono hB4.size)
        have hT6 := TableAt.below HT.out b6
        have hL6 : L ≤ c + 1 := by omega
        have hA5 := HA.out
        have hf6 := hf4
        have i5 : (0 : Int) ≤ (L : Int) := by omega
        clear hP HT HA
        obtain ⟨L5, hx1⟩ : ∃ L5, L5 = L := ⟨L, rfl⟩
        obtain ⟨es5, hx2⟩ : ∃ es5, es5 = es4 := ⟨es4, rfl⟩
        obtain ⟨S6, hx3⟩ : ∃ S6, S6 = S4 := ⟨S4, rfl⟩
        subst hx1 hx2 hx3
      all_goals
        obtain ⟨ab, ao, rfl, _, hcs⟩ := (Arg.keep H.out hB6).at (i := c) (by omega)
        have c0 := hcs c (by omega)
        obtain ⟨y, hy, hye⟩ := ffff_nat (z c)
        obtain ⟨r, hr⟩ : ∃ r, y % (L5 + 2) = r := ⟨_, rfl⟩
        have e3 : (y : Int) % ((L5 : Int) + 2) = (r : Int) := by rw [← hr, Int.natCast_emod, Int.natCast_add]; rfl
        clear hcs hr
        rcases there_or (es := es5) (r : Int) with ⟨j, hj, hid⟩ | hid
        · have hG := getN_yes S6 b m L5 es5 _ j hj _ hT6 hA5 hid
          have hN := gone_no hT6.rise hj hid
          have HN : Hid _ := hN
          have HI : Hid _ := hid
          have HA5 : Hid _ := hA5
          have HT : Hid _ := hT6
          clear hN hid hA5 hT6
          go_wp2_with fail
          refine hG.mono ?_; rintro e w7 ⟨rfl, b7⟩
          have hT7 := TableAt.below HT.out b7
          have hB7 := hB6.trans (b7.mono hB6.size)
          have hD := dropN_yes S6 b m L5 es5 _ j hj _ hT7 HA5.out HI.out
          clear hG hT7
          go_wp2_with fail
          refine hD.mono ?_; rintro e w8 ⟨rfl, S8, hT8, hF8, hs8⟩
          have hB8 := Below.fr hB7 hF8 hf6 hB7.size
          have hf8 := hf6.step hs8 hB7.size
          have hA8 := AllN.eraseIdx HA5.out j
          have hG := getN_no S8 b m L5 _ _ _ hT8 hA8 HN.out
          have HT8 : Hid _ := hT8
          have HA8 : Hid _ := hA8
          clear hD hs8 hF8 hT8 hA8
          go_wp2_with fail
          refine hG.mono ?_; rintro e w9 ⟨rfl, b9⟩
          have hT9 := TableAt.below HT8.out b9
          have hB9 := hB8.trans (b9.mono hB8.size)
          have hQ := putN_no S8 b m L5 _ _ 5 _ hT9 HA8.out HN.out
          clear hG
          go_wp2_with fail
          refine hQ.mono ?_; rintro e w10 ⟨rfl, b10⟩
          have hT10 := hT9.below b10
          have hB10 := hB9.trans (b10.mono hB9.size)
          have hQ2 := dropN_no S8 b m L5 _ _ _ hT10 HA8.out HN.out
          clear hQ
          go_wp2_with fail
          refine hQ2.mono ?_; rintro e w11 ⟨rfl, b11⟩
          have hT11 := hT10.below b11
          have hB11 := hB10.trans (b11.mono hB10.size)
          clear hQ2 hT9 hT10
          go_wp2_with fail
          go_roundw
          case rel => exact ⟨c + 1, L5, S8, _, rfl, by go_num, by omega, by omega, hL6, HA8.out, hT11, hf8, hB11⟩
          case measure => simp [intOf]; omega
        · have hG := getN_no S6 b m L5 es5 _ _ hT6 hA5 hid
          have HI : Hid _ := hid
          have HA5 : Hid _ := hA5
          have HT : Hid _ := hT6
          clear hid hA5 hT6
          go_wp2_with fail
          refine hG.mono ?_; rintro e w7 ⟨rfl, b7⟩
          have hT7 := TableAt.below HT.out b7
          have hB7 := hB6.trans (b7.mono hB6.size)
          have hD := dropN_no S6 b m L5 es5 _ _ hT7 HA5.out HI.out
          clear hG
          go_wp2_with fail
          refine hD.mono ?_; rintro e w8 ⟨rfl, b8⟩
          have hT8 := hT7.below b8
          have hB8 := hB7.trans (b8.mono hB7.size)
          have hG := getN_no S6 b m L5 _ _ _ hT8 HA5.out HI.out
          clear hD
          go_wp2_with fail
          refine hG.mono ?_; rintro e w9 ⟨rfl, b9⟩
          have hT9 := hT8.below b9
          have hB9 := hB8.trans (b9.mono hB8.size)
          have hQ := putN_no S6 b m L5 _ _ 5 _ hT9 HA5.out HI.out
          clear hG
          go_wp2_with fail
          refine hQ.mono ?_; rintro e w10 ⟨rfl, b10⟩
          have hT10 := hT9.below b10
          have hB10 := hB9.trans (b10.mono hB9.size)
          have hQ2 := dropN_no S6 b m L5 _ _ _ hT10 HA5.out HI.out
          clear hQ
          go_wp2_with fail
          refine hQ2.mono ?_; rintro e w11 ⟨rfl, b11⟩
          have hT11 := hT10.below b11
          have hB11 := hB10.trans (b11.mono hB10.size)
          clear hQ2 hT9 hT10 hT7 hT8
          go_wp2_with fail
          go_roundw
          case rel => exact ⟨c + 1, L5, S6, _, rfl, by go_num, by omega, by omega, hL6, HA5.out, hT11, hf6, hB11⟩
          case measure => simp [intOf]; omega
    · have HA : Hid _ := ha
      clear ha
      by_cases hcn : c < n
      case' pos => have i2 : ¬ (c : Int) < 100 := by omega
      case' neg => have i2 : ¬ (c : Int) < (n : Int) := by omega
      all_goals
        go_wp2_with fail
        go_ret
        exact ⟨rfl, hB4⟩
end Go.Proofs.Ytechkkidebkadaa
