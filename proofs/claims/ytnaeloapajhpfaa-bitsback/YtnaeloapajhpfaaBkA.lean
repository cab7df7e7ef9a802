/- Layer 3 (bits): the walk of the law BitsBack. -/
import Derived.Test.YtnaeloapajhpfaaBtW
namespace Go.Proofs.Ytnaeloapajhpfaa
open Go.RowKit Go.Shelf
set_option linter.unusedVariables false

theorem putsBits_pre (N B : Nat → Int) {k K : Nat} (h : k ≤ K) : ∃ X, putsBits N B K = putsBits N B k ++ X := by
  induction K with
  | zero => obtain rfl : k = 0 := by omega
            exact ⟨[], by simp⟩
  | succ K ih =>
    by_cases e : k = K + 1
    · subst e; exact ⟨[], by simp⟩
    · obtain ⟨X, hX⟩ := ih (by omega)
      exact ⟨X ++ low (U (N K)) (cnt (B K)), by rw [putsBits, hX, List.append_assoc]⟩
theorem ArgP.at' {w : World} {b o n cap : Nat} {N B : Nat → Int} {G : Nat → Bool} (h : ArgP w (some ⟨b, o, none⟩) n cap N B G) {i : Nat} (hi : i < n) : w.cell? ⟨b, o + i * 3, none⟩ = some (.int .i64 (N i)) ∧ w.cell? ⟨b, o + i * 3 + 1, none⟩ = some (.int .i64 (B i)) ∧ w.cell? ⟨b, o + i * 3 + 2, none⟩ = some (.bool (G i)) := by
  obtain ⟨b', o', hp, _, hc⟩ := h.at hi
  cases hp; exact hc i hi
/-- What is left behind the first puts. -/
def left (N B : Nat → Int) (K f k : Nat) : List Bool := (putsBits N B K ++ List.replicate f false).drop (putsBits N B k).length
theorem left_zero (N B : Nat → Int) (K f : Nat) : left N B K f 0 = putsBits N B K ++ List.replicate f false := rfl
theorem left_end (N B : Nat → Int) (K f : Nat) : left N B K f K = List.replicate f false := by unfold left; rw [List.drop_left]
theorem left_step (N B : Nat → Int) {K k : Nat} (f : Nat) (h : k < K) : left N B K f k = low (U (N k)) (cnt (B k)) ++ left N B K f (k + 1) := by
  obtain ⟨X, hX⟩ := putsBits_pre N B (show k + 1 ≤ K by omega)
  unfold left
  rw [hX, List.append_assoc, List.drop_left]
  rw [putsBits, List.append_assoc, List.drop_left]
theorem get_low (u c : Nat) (X : List Bool) : gotV (low u c ++ X) c = u % 2 ^ c ∧ gotS (low u c ++ X) c = sgn (low u c) ∧ gotB (low u c ++ X) c = true ∧ gotR (low u c ++ X) c = X := by
  have hl : c ≤ (low u c ++ X).length := by rw [List.length_append, low_length]; omega
  unfold gotV gotS gotB gotR
  rw [if_pos hl, if_pos hl, if_pos hl, List.take_left' (low_length u c), List.drop_left' (low_length u c), val_low]
  exact ⟨rfl, rfl, decide_eq_true hl, rfl⟩
theorem back_u {u c a : Nat} (h : c + a = 64) : IntKind.u64.wrap ((u : Int) * 2 ^ a) / 2 ^ a = ((u % 2 ^ c : Nat) : Int) := by
  have hpa : 0 < 2 ^ a := Nat.pow_pos (by decide)
  have hp : 2 ^ 64 = 2 ^ c * 2 ^ a := by rw [← Nat.pow_add, h]
  have e1 : (u : Int) * 2 ^ a = ((u * 2 ^ a : Nat) : Int) := by rw [Int.natCast_mul, Int.natCast_pow]; rfl
  have e2 : ((2 : Int) ^ a) = ((2 ^ a : Nat) : Int) := by rw [Int.natCast_pow]; rfl
  have e3 : IntKind.u64.wrap ((u * 2 ^ a : Nat) : Int) = (((u * 2 ^ a) % 2 ^ 64 : Nat) : Int) := by
    rw [U_wrap]; unfold U
    generalize u * 2 ^ a = t
    omega
  rw [e1, e3, e2, ← Int.natCast_ediv, hp, Nat.mul_mod_mul_right, Nat.mul_div_cancel _ hpa]
theorem wrap64_congr {x y : Int} (h : x % 18446744073709551616 = y % 18446744073709551616) : wrap64 x = wrap64 y := by unfold wrap64; omega
theorem back_s {n : Int} {c a : Nat} (h : c + a = 64) : wrap64 (n * 2 ^ a) / 2 ^ a = sgn (low (U n) c) := by
  have hs := sgn_shift (l := low (U n) c) (a := a) (by rw [low_length]; exact h)
  rw [← hs, Go.IntWalk.i64_left]
  congr 1
  apply wrap64_congr
  rw [U_wrap, val_low]
  have hp : 2 ^ 64 = 2 ^ c * 2 ^ a := by rw [← Nat.pow_add, h]
  have e1 : ((U n % 2 ^ c : Nat) : Int) * 2 ^ a = (((U n % 2 ^ c) * 2 ^ a : Nat) : Int) := by rw [Int.natCast_mul, Int.natCast_pow]; rfl
  rw [e1, ← Nat.mul_mod_mul_right, ← hp]
  have e2 : (((U n * 2 ^ a) % 2 ^ 64 : Nat) : Int) = n * 2 ^ a % 18446744073709551616 := by
    rw [Int.natCast_emod, Int.natCast_mul]
    show (U n : Int) * ((2 ^ a : Nat) : Int) % 18446744073709551616 = _
    have e3 : (U n : Int) = n % 18446744073709551616 := by unfold U; omega
    have e4 : ((2 ^ a : Nat) : Int) = (2 : Int) ^ a := by rw [Int.natCast_pow]; rfl
    rw [e3, e4, Int.mul_emod, Int.emod_emod, ← Int.mul_emod]
  have e5 : ((U (((U n * 2 ^ a) % 2 ^ 64 : Nat) : Int) : Nat) : Int) = (((U n * 2 ^ a) % 2 ^ 64 : Nat) : Int) := by
    unfold U
    have := Nat.mod_lt (((n % 2 ^ 64).toNat) * 2 ^ a) (show 0 < 2 ^ 64 by decide)
    omega
  rw [e5, e2]
  omega
theorem rest_zeros {f : Nat} (h : f < 8) : restB (List.replicate f false) = true ∧ gotB (List.replicate f false) 8 = false := by
  unfold restB gotB
  rw [List.length_replicate, decide_eq_true h, decide_eq_false (by omega)]
  simp
set_option maxRecDepth 100000 in
set_option maxHeartbeats 4000000 in
theorem bitsBack_walk (p : Option Addr) (n cap : Nat) (N B : Nat → Int) (G : Nat → Bool) (w : World) (h : ArgP w p n cap N B G) :
    Calls Try.prog 5 #[.slice p n cap] w fun e w' => e = .returned (.bool true) ∧ Below w.heap.size w w' := by
  have hle := h.le; have hmost := h.most
  unfold maxLen at hmost
  have hsh := shown w
  have H := hid h
  clear h
  have hKl := putsBits_len N B (min n 100)
  go_enter Try.func5, Try.ntmps5
  go_wp2_with (first
    | (go_at_call 11; refine hsh.mono ?_; rintro e w0 ⟨rfl, hB0⟩)
    | (go_at_call 12; refine (writeL p n cap N B G w0 (H.out.keep hB0)).mono ?_; rintro e w1 ⟨A, rfl, S, h1, hf1, b1⟩)
    | (go_at_call 13; refine (bytesW S A _ w1 h1 (by omega)).mono ?_; rintro e w2 ⟨⟨v2, ys, f, rfl, hr2, hp2⟩, b2⟩; obtain ⟨p2, cap2, rfl, ha2⟩ := hr2.arg)
    | (go_at_call 16; refine (newReader p2 cap2 ys w2 ha2 hp2.byte (by have h1 := hp2.len; have h2 := hp2.few; omega)).mono ?_; rintro e w3 ⟨⟨r, S3, rfl, hr3, hf3⟩, b3⟩))
  have hB2 := (hB0.trans (b1.mono hB0.size)).trans (b2.mono (Nat.le_trans hB0.size b1.size))
  have hB3 := hB2.trans (b3.mono hB2.size)
  have hF3 : From w.heap.size S3 := ⟨fun k hk => Nat.le_trans hB2.size (hf3.le k hk)⟩
  rw [hp2.bits] at hr3
  have hf8 := hp2.few
  have R3 := hid hr3
  clear hsh b1 b2 b3 h1 hf1 hr2 hp2 ha2 hr3 hf3 hB0 hB2 hKl
  go_loopw [7] (fun i wr => ∃ (k : Nat), i = .int .i64 k ∧ k ≤ min n 100 ∧ RdAt wr S3 r (left N B (min n 100) f k) ∧ Below w.heap.size w wr) (fun i _ => 100 - (intOf i).toNat)
  case atStart => exact ⟨0, rfl, Nat.zero_le _, R3.out, hB3⟩
  case round =>
    obtain ⟨k, rfl, hk, r4, hB4⟩ := hrel
    clear R3 hB3
    by_cases hlt : k < min n 100
    · have i1 : (k : Int) < (n : Int) := by omega
      have i2 : (k : Int) < 100 := by omega
      obtain ⟨ab, ao, rfl, _, hcs⟩ := (H.out.keep hB4).at (i := k) (by omega)
      obtain ⟨c0, c1, c2⟩ := hcs k (by omega)
      rw [left_step N B f hlt] at r4
      have hcb := cnt_le (B k)
      have hg := getR S3 r _ (B k) wr r4
      have hs := signR S3 r _ (B k) wr r4
      obtain ⟨g1, g2, g3, g4⟩ := get_low (U (N k)) (cnt (B k)) (left N B (min n 100) f (k + 1))
      rw [g1, g3, g4] at hg
      rw [g2, g3, g4] at hs
      obtain ⟨a, ha⟩ : ∃ a, cnt (B k) + a = 64 := ⟨64 - cnt (B k), by omega⟩
      have q1 := back_u (u := U (N k)) ha
      have q2 := back_s (n := N k) ha
      have q3 := U_wrap (N k)
      have q4 : (sgn (low (U (N k)) (cnt (B k)))) = (sgn (low (U (N k)) (cnt (B k)))) := rfl
      obtain ⟨nk, hnk⟩ : ∃ nk, N k = nk := ⟨_, rfl⟩
      obtain ⟨bk, hbk⟩ : ∃ bk, B k = bk := ⟨_, rfl⟩
      obtain ⟨gk, hgk⟩ : ∃ gk, G k = gk := ⟨_, rfl⟩
      obtain ⟨uk, huk⟩ : ∃ uk, U (N k) = uk := ⟨_, rfl⟩
      rw [huk] at q1 q2 q3 hg hs
      rw [hnk] at c0 q2 q3
      rw [hbk] at c1 q1 q2 hg hs ha hcb
      rw [hgk] at c2
      obtain ⟨V, hV⟩ : ∃ V, uk % 2 ^ cnt bk = V := ⟨_, rfl⟩
      obtain ⟨Z, hZ⟩ : ∃ Z, sgn (low uk (cnt bk)) = Z := ⟨_, rfl⟩
      rw [hV] at q1 hg
      rw [hZ] at q2 hs
      have hcase : (bk ≤ 0 ∧ a = 64) ∨ (0 < bk ∧ bk ≤ 64 ∧ (64 : Int) - bk = (a : Int)) ∨ (64 < bk ∧ a = 0) := by unfold cnt at ha; omega
      have ha64 : a ≤ 64 := by omega
      have HNK := hid hnk
      clear hcs r4 g1 g2 g3 g4 hnk hbk hgk huk hV hZ q4 ha hcb
      have hclose : ∀ w5, RdAt w5 S3 r (left N B (min n 100) f (k + 1)) → Fr S3 wr w5 → Below w.heap.size w w5 ∧ w5.cell? ⟨ab, ao + k * 3, none⟩ = some (.int .i64 nk) := fun w5 _ f5 => by
        have hB5 := hB4.trans (f5.below hB4.size hF3.le)
        exact ⟨hB5, by rw [← HNK.out]; exact ((H.out.keep hB5).at' (i := k) (by omega)).1⟩
      have HC := hid hclose
      clear hclose
      rcases hcase with ⟨k1, rfl⟩ | ⟨k1, k2, k3⟩ | ⟨k1, rfl⟩
      · simp at q1 q2
        cases gk with
        | true =>
          go_wp2_with fail
          refine hs.mono ?_
          rintro e w5 ⟨rfl, r5, f5⟩
          obtain ⟨hB5, d0⟩ := HC.out w5 r5 f5
          have R5 := hid r5
          clear hs hg r5 f5 c0 c1 c2 HC
          go_wp2_with fail
          go_roundw
          case rel => exact ⟨k + 1, by go_num, by omega, R5.out, hB5⟩
          case measure => simp [intOf]; omega
        | false =>
          go_wp2_with fail
          refine hg.mono ?_
          rintro e w5 ⟨rfl, r5, f5⟩
          obtain ⟨hB5, d0⟩ := HC.out w5 r5 f5
          have R5 := hid r5
          clear hs hg r5 f5 c0 c1 c2 HC
          go_wp2_with fail
          go_roundw
          case rel => exact ⟨k + 1, by go_num, by omega, R5.out, hB5⟩
          case measure => simp [intOf]; omega
      ·
        cases gk with
        | true =>
          go_wp2_with fail
          refine hs.mono ?_
          rintro e w5 ⟨rfl, r5, f5⟩
          obtain ⟨hB5, d0⟩ := HC.out w5 r5 f5
          have R5 := hid r5
          clear hs hg r5 f5 c0 c1 c2 HC
          go_wp2_with fail
          go_roundw
          case rel => exact ⟨k + 1, by go_num, by omega, R5.out, hB5⟩
          case measure => simp [intOf]; omega
        | false =>
          go_wp2_with fail
          refine hg.mono ?_
          rintro e w5 ⟨rfl, r5, f5⟩
          obtain ⟨hB5, d0⟩ := HC.out w5 r5 f5
          have R5 := hid r5
          clear hs hg r5 f5 c0 c1 c2 HC
          go_wp2_with fail
          go_roundw
          case rel => exact ⟨k + 1, by go_num, by omega, R5.out, hB5⟩
          case measure => simp [intOf]; omega
      · simp at q1 q2
        cases gk with
        | true =>
          go_wp2_with fail
          refine hs.mono ?_
          rintro e w5 ⟨rfl, r5, f5⟩
          obtain ⟨hB5, d0⟩ := HC.out w5 r5 f5
          have R5 := hid r5
          clear hs hg r5 f5 c0 c1 c2 HC
          go_wp2_with fail
          go_roundw
          case rel => exact ⟨k + 1, by go_num, by omega, R5.out, hB5⟩
          case measure => simp [intOf]; omega
        | false =>
          go_wp2_with fail
          refine hg.mono ?_
          rintro e w5 ⟨rfl, r5, f5⟩
          obtain ⟨hB5, d0⟩ := HC.out w5 r5 f5
          have R5 := hid r5
          clear hs hg r5 f5 c0 c1 c2 HC
          go_wp2_with fail
          go_roundw
          case rel => exact ⟨k + 1, by go_num, by omega, R5.out, hB5⟩
          case measure => simp [intOf]; omega
    · have hke : k = min n 100 := by omega
      rw [hke, left_end] at r4
      have hre := restR S3 r _ _ r4
      rw [(rest_zeros hf8).1] at hre
      have hcase : ((k : Int) < (n : Int) ∧ ¬ (k : Int) < 100) ∨ ¬ (k : Int) < (n : Int) := by omega
      clear r4 hke hlt hk
      rcases hcase with ⟨i1, i2⟩ | i1
      all_goals
        go_wp2_with fail
        refine hre.mono ?_
        rintro e w5 ⟨rfl, r5, b5⟩
        have hB5 := hB4.trans (b5.mono hB4.size)
        have hg := getR S3 r _ 8 _ r5
        rw [show cnt 8 = 8 from rfl, (rest_zeros hf8).2] at hg
        obtain ⟨V, hV⟩ : ∃ V, gotV (List.replicate f false) 8 = V := ⟨_, rfl⟩
        rw [hV] at hg
        clear hV r5 b5 hre
        go_wp2_with fail
        refine hg.mono ?_
        rintro e w6 ⟨rfl, _, f6⟩
        have hB6 := hB5.trans (f6.below hB5.size hF3.le)
        clear hg f6
        go_wp2_with fail
        go_ret
        exact ⟨rfl, hB6⟩
end Go.Proofs.Ytnaeloapajhpfaa
