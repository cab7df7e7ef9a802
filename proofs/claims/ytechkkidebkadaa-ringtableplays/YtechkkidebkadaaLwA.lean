/- Layer 2 (ring): the walk of the law RingLast. -/
import Derived.Test.YtechkkidebkadaaShown
namespace Go.Proofs.Ytechkkidebkadaa
open Go.RowKit
set_option linter.unusedVariables false
attribute [local go_sem ↓] Go.wp_at_zero Go.wp_at_succ

/-- A slice that was handed in. -/
structure Arg (w : World) (p : Option Addr) (n cap : Nat) (f : Nat → Value) : Prop where
  le : n ≤ cap
  most : cap ≤ maxLen
  cells : n = 0 ∨ ∃ b o, p = some ⟨b, o, none⟩ ∧ b < w.heap.size ∧ ∀ i, i < n → w.cell? ⟨b, o + i, none⟩ = some (f i)
theorem Arg.keep {w w' : World} {p : Option Addr} {n cap : Nat} {f : Nat → Value} (h : Arg w p n cap f) (hb : Below w.heap.size w w') : Arg w' p n cap f := by
  refine ⟨h.le, h.most, ?_⟩
  rcases h.cells with h | ⟨b, o, rfl, hlt, hc⟩
  · exact .inl h
  · exact .inr ⟨b, o, rfl, Nat.lt_of_lt_of_le hlt hb.size, fun i hi => (hb.cell (p := ⟨b, o + i, none⟩) hlt).trans (hc i hi)⟩
theorem Arg.at {w : World} {p : Option Addr} {n cap : Nat} {f : Nat → Value} (h : Arg w p n cap f) {i : Nat} (hi : i < n) : ∃ b o, p = some ⟨b, o, none⟩ ∧ b < w.heap.size ∧ ∀ i, i < n → w.cell? ⟨b, o + i, none⟩ = some (f i) := by
  rcases h.cells with h | h
  · omega
  · exact h
/-- The first ones; the last of them. -/
def pref (f : Nat → Value) (k : Nat) : List Value := (List.range k).map f
theorem pref_length (f : Nat → Value) (k : Nat) : (pref f k).length = k := by simp [pref]
theorem pref_succ (f : Nat → Value) (k : Nat) : pref f (k + 1) = pref f k ++ [f k] := by simp [pref, List.range_succ]
theorem pref_get (f : Nat → Value) {k i : Nat} (h : i < k) : (pref f k)[i]? = some (f i) := by simp [pref, h]
def lastOf (f : Nat → Value) (m k : Nat) : List Value := (pref f k).drop (k - m)
theorem lastOf_length (f : Nat → Value) (m k : Nat) : (lastOf f m k).length = min k m := by unfold lastOf; rw [List.length_drop, pref_length]; omega
theorem lastOf_room (f : Nat → Value) {m k : Nat} (h : k < m) : lastOf f m k ++ [f k] = lastOf f m (k + 1) := by
  unfold lastOf
  rw [show k - m = 0 by omega, show k + 1 - m = 0 by omega, List.drop_zero, List.drop_zero, pref_succ]
theorem lastOf_get (f : Nat → Value) {m k i : Nat} (h : i < min k m) : (lastOf f m k)[i]? = some (f (k - m + i)) := by
  unfold lastOf
  rw [List.getElem?_drop, pref_get]
  omega
theorem lastOf_head (f : Nat → Value) {m k : Nat} (h1 : 1 ≤ m) (h : m ≤ k) : (lastOf f m k).head? = some (f (k - m)) := by
  rw [List.head?_eq_getElem?, lastOf_get f (by omega)]; rfl
theorem lastOf_full (f : Nat → Value) {m k : Nat} (h1 : 1 ≤ m) (h : m ≤ k) : (lastOf f m k).tail ++ [f k] = lastOf f m (k + 1) := by
  unfold lastOf
  rw [List.tail_drop, pref_succ, List.drop_append_of_le_length (by rw [pref_length]; omega), show k + 1 - m = k - m + 1 by omega]
theorem lastOf_zero (f : Nat → Value) (m : Nat) : lastOf f m 0 = [] := by simp [lastOf, pref]
theorem lastOf_last (f : Nat → Value) {m k : Nat} (h1 : 1 ≤ m) : (lastOf f m (k + 1))[min (k + 1) m - 1]? = some (f k) := by
  rw [lastOf_get f (by omega)]
  congr 2
  omega

theorem and_ffff (n : Int) : bits .and .i64 n 65535 = n % 65536 := by
  have h127 : (BitVec.ofInt 64 65535).toNat = 2 ^ 16 - 1 := by decide
  have key : (BitVec.ofInt 64 n &&& BitVec.ofInt 64 65535).toNat = (n % ((2 ^ 64 : Nat) : Int)).toNat % 2 ^ 16 := by
    rw [BitVec.toNat_and, BitVec.toNat_ofInt, h127, Nat.and_two_pow_sub_one_eq_mod]
  show IntKind.i64.wrap ((BitVec.ofInt 64 n &&& BitVec.ofInt 64 65535).toNat : Nat) = n % 65536
  rw [key, IntKind.wrap_i64]
  omega
theorem and_63 (n : Int) : bits .and .i64 n 63 = n % 64 := by
  have h127 : (BitVec.ofInt 64 63).toNat = 2 ^ 6 - 1 := by decide
  have key : (BitVec.ofInt 64 n &&& BitVec.ofInt 64 63).toNat = (n % ((2 ^ 64 : Nat) : Int)).toNat % 2 ^ 6 := by
    rw [BitVec.toNat_and, BitVec.toNat_ofInt, h127, Nat.and_two_pow_sub_one_eq_mod]
  show IntKind.i64.wrap ((BitVec.ofInt 64 n &&& BitVec.ofInt 64 63).toNat : Nat) = n % 64
  rw [key, IntKind.wrap_i64]
  omega
theorem ffff_nat (n : Int) : ∃ q : Nat, q ≤ 65535 ∧ bits .and .i64 n 65535 = (q : Int) := ⟨(n % 65536).toNat, by omega, by rw [and_ffff]; omega⟩
theorem b63_nat (n : Int) : ∃ q : Nat, q ≤ 63 ∧ bits .and .i64 n 63 = (q : Int) := ⟨(n % 64).toNat, by omega, by rw [and_63]; omega⟩
set_option maxRecDepth 100000 in
set_option maxHeartbeats 2000000 in
theorem ringLast_walk (a : Int) (p : Option Addr) (n cap : Nat) (s : Nat → ByteArray) (w : World) (wf : (Lit.int .i64 a).wf = true) (h : Arg w p n cap fun i => .string (s i)) :
    Calls Try.prog 4 #[.int .i64 a, .slice p n cap] w fun e w' => e = .returned (.bool true) ∧ Below w.heap.size w w' := by
  obtain ⟨q, hq, hqe⟩ := ffff_nat a
  obtain ⟨m, hm⟩ : ∃ m : Nat, (1 : Int) + (q : Int) % 30 = (m : Int) := ⟨1 + q % 30, by omega⟩
  have hm1 : 1 ≤ m ∧ m ≤ 30 := by omega
  have hle := h.le; have hmost := h.most
  unfold maxLen at hmost
  have H : Hid _ := h
  clear h
  go_enter Try.func4, Try.ntmps4
  go_wp2_with fail
  refine (shown_any w).mono ?_; rintro e w1 ⟨rfl, hB⟩
  go_wp2_with fail
  refine (newS m w1).mono ?_; rintro e w2 ⟨rfl, hw2⟩
  have hR := ring_new 85 9 w1 m hm1.1 (by omega)
  have hB2 : Below w1.heap.size w1 w2 := by rw [hw2]; exact (Below.refl _ _).alloc (Nat.le_refl _) _
  replace hR : RingAt 85 9 w2 (fun k => k = w1.heap.size) w1.heap.size m [] := by
    rw [hw2, show max (m : Int) 1 = (m : Int) by omega]; exact hR
  have hBB := btrans hB hB2
  have hf : From w.heap.size (fun k => k = w1.heap.size) := ⟨fun k h => by have := hB.size; omega⟩
  obtain ⟨b, hb⟩ : ∃ b, w1.heap.size = b := ⟨_, rfl⟩
  rw [hb] at hR hf ⊢
  generalize (fun k => k = b) = S at hR hf
  clear hw2 hB2 hB hb
  go_wp2_with fail
  case' inl => (generalize hN : (100 : Nat) = N; have hNc : N ≤ n ∧ N ≤ 100 ∧ N ≤ cap := by omega)
  case' inr => (obtain ⟨N, hN⟩ : ∃ N, n = N := ⟨_, rfl⟩; rw [hN]; have hNc : N ≤ n ∧ N ≤ 100 ∧ N ≤ cap := by omega)
  all_goals
    clear hN
    go_loopw [7] (fun i wr => ∃ (k : Nat) (S' : Nat → Prop), i = .int .i64 k ∧ k ≤ N ∧ RingAt 85 9 wr S' b m (lastOf (fun i => .string (s i)) m k) ∧ From w.heap.size S' ∧ Below w.heap.size w wr) (fun i _ => N - (intOf i).toNat)
    case atStart => exact ⟨0, S, rfl, Nat.zero_le _, by rw [lastOf_zero]; exact hR, hf, hBB⟩
    case round =>
      obtain ⟨k, S', rfl, hk, hR', hf', hB'⟩ := hrel
      clear hR hf hBB
      by_cases hlt : k < N
      · have hki : (k : Int) < (N : Int) := by omega
        obtain ⟨ab, ao, rfl, _, hcs⟩ := (Arg.keep H.out hB').at (i := k) (by omega)
        have c0 := hcs k (by omega)
        have hl1 := lastOf_last (fun i => .string (s i)) (m := m) (k := k) hm1.1
        have hlen := lastOf_length (fun i => .string (s i)) m k
        have hlen2 := lastOf_length (fun i => .string (s i)) m (k + 1)
        by_cases hkm : k < m
        · rw [show min (k + 1) m = k + 1 by omega] at hlen2 hl1
          rw [show k + 1 - 1 = k by omega] at hl1
          have hP := pushS_room S' b m _ (s k) wr hR' (by rw [hlen]; omega)
          rw [lastOf_room (fun i => .string (s i)) hkm] at hP
          have hki2 : ¬ (m : Int) ≤ (k : Int) := by omega
          have hki3 : (k : Int) + 1 ≤ (m : Int) := by omega
          have HL : Hid _ := hlen2
          have HG : Hid _ := hl1
          clear hR' hlen hlen2 hl1
          go_wp2_with fail
          refine hP.mono ?_; rintro e w3 ⟨rfl, S3, hR3, hF3, hs3⟩
          have hB3 := Below.fr hB' hF3 hf' hB'.size
          have hf3 := hf'.step hs3 hB'.size
          have c3 := (Arg.keep H.out hB3)
          obtain ⟨ab2, ao2, hab, _, hcs3⟩ := c3.at (i := k) (by omega)
          cases hab
          have c4 := hcs3 k (by omega)
          have hL := lenS S3 b m _ w3 hR3
          have hA := atS_yes S3 b m _ k _ w3 hR3 HG.out
          rw [HL.out] at hL
          clear hP hs3 hcs3 c3 hcs c0
          go_wp2_with fail
          refine hL.mono ?_; rintro e w4 ⟨rfl, rfl⟩
          go_wp2_with fail
          refine hL.mono ?_; rintro e w4 ⟨rfl, rfl⟩
          go_wp2_with fail
          refine hA.mono ?_; rintro e w5 ⟨rfl, b5⟩
          have hB5 := hB3.trans (b5.mono hB3.size)
          have c5 := (b5.cell (p := ⟨ab, ao + k, none⟩) (by assumption)).trans c4
          have hR5 := hR3.below b5
          clear hL hA hR3 c4 b5 hB3 hF3
          go_wp2_with fail
          go_roundw
          case rel => exact ⟨k + 1, S3, by go_num, by omega, hR5, hf3, hB5⟩
          case measure => simp [intOf]; omega
        · obtain ⟨d, hd⟩ : ∃ d : Nat, k = d + m := ⟨k - m, by omega⟩
          obtain ⟨m1, hm'⟩ : ∃ m1 : Nat, m = m1 + 1 := ⟨m - 1, by omega⟩
          rw [show min (k + 1) m = m by omega] at hlen2 hl1
          rw [show m - 1 = m1 by omega] at hl1
          have hh := lastOf_head (fun i => .string (s i)) (m := m) (k := k) hm1.1 (by omega)
          rw [show k - m = d by omega] at hh
          have hP := pushS_full S' b m _ (s k) _ wr hR' (by rw [hlen]; omega) hh
          rw [lastOf_full (fun i => .string (s i)) hm1.1 (by omega)] at hP
          have hki2 : (m : Int) ≤ (k : Int) := by omega
          have hki3 : ¬ (k : Int) + 1 ≤ (m : Int) := by omega
          have hd1 : (k : Int) - (m : Int) = (d : Int) := by omega
          have hd2 : (d : Int) < (N : Int) := by omega
          have hd3 : (m : Int) - 1 = (m1 : Int) := by omega
          have hdn : d < n := by omega
          have HL : Hid _ := hlen2
          have HG : Hid _ := hl1
          clear hR' hlen hlen2 hl1 hd hm' hh
          go_wp2_with fail
          refine hP.mono ?_; rintro e w3 ⟨rfl, hR3, hF3⟩
          have hB3 := Below.fr hB' hF3 hf' hB'.size
          have c3 := (Arg.keep H.out hB3)
          obtain ⟨ab2, ao2, hab, _, hcs3⟩ := c3.at (i := k) (by omega)
          cases hab
          have c4 := hcs3 k (by omega)
          have c6 := hcs3 d hdn
          have hL := lenS S' b m _ w3 hR3
          have hA := atS_yes S' b m _ m1 _ w3 hR3 HG.out
          rw [HL.out] at hL
          clear hP hcs3 c3 hcs c0
          go_wp2_with fail
          refine hL.mono ?_; rintro e w4 ⟨rfl, rfl⟩
          go_wp2_with fail
          refine hL.mono ?_; rintro e w4 ⟨rfl, rfl⟩
          go_wp2_with fail
          refine hA.mono ?_; rintro e w5 ⟨rfl, b5⟩
          have hB5 := hB3.trans (b5.mono hB3.size)
          have c5 := (b5.cell (p := ⟨ab, ao + k, none⟩) (by assumption)).trans c4
          have hR5 := hR3.below b5
          clear hL hA hR3 c4 b5 hB3 hF3 c6
          go_wp2_with fail
          go_roundw
          case rel => exact ⟨k + 1, S', by go_num, by omega, hR5, hf', hB5⟩
          case measure => simp [intOf]; omega
      · have hki : ¬ (k : Int) < (N : Int) := by omega
        go_wp2_with fail
        go_ret
        exact ⟨rfl, hB'⟩
end Go.Proofs.Ytechkkidebkadaa
