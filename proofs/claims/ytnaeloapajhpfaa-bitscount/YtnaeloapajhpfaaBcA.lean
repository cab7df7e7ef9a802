/- Layer 3 (bits): the walk of the law BitsCount. -/
import Derived.Test.YtnaeloapajhpfaaBtW
namespace Go.Proofs.Ytnaeloapajhpfaa
open Go.RowKit Go.Shelf
set_option linter.unusedVariables false

theorem putsBits_succ_len (N B : Nat → Int) (k : Nat) : (putsBits N B (k + 1)).length = (putsBits N B k).length + cnt (B k) := by rw [putsBits, List.length_append, low_length]
theorem get1 {rs : List Bool} (h : 0 < rs.length) : ∃ b : Bool, gotV rs 1 = b.toNat ∧ gotB rs 1 = true ∧ gotR rs 1 = rs.drop 1 := by
  cases rs with
  | nil => simp at h
  | cons b rs =>
    have hl : 1 ≤ (b :: rs).length := by simp
    refine ⟨b, ?_, decide_eq_true hl, if_pos hl⟩
    unfold gotV
    rw [if_pos hl]
    simp [val]
set_option maxRecDepth 100000 in
set_option maxHeartbeats 4000000 in
theorem bitsCount_walk (p : Option Addr) (n cap : Nat) (N B : Nat → Int) (G : Nat → Bool) (w : World) (h : ArgP w p n cap N B G) :
    Calls Try.prog 9 #[.slice p n cap] w fun e w' => e = .returned (.bool true) ∧ Below w.heap.size w w' := by
  have hle := h.le; have hmost := h.most
  unfold maxLen at hmost
  have hsh := shown w
  have H := hid h
  clear h
  go_enter Try.func9, Try.ntmps9
  go_wp2_with (first
    | (go_at_call 11; refine hsh.mono ?_; rintro e w0 ⟨rfl, hB0⟩)
    | (go_at_call 12; refine (writeL p n cap N B G w0 (H.out.keep hB0)).mono ?_; rintro e w1 ⟨A, rfl, S, h1, hf1, b1⟩))
  have hB1 := hB0.trans (b1.mono hB0.size)
  have HW := hid h1
  clear hsh b1 h1 hf1
  go_loopw [6, 7] (fun m i wr => ∃ (k : Nat), wr = w1 ∧ i = .int .i64 k ∧ k ≤ min n 100 ∧ m = .int .i64 ((putsBits N B k).length : Nat)) (fun _ i _ => 100 - (intOf i).toNat)
  case atStart => exact ⟨0, rfl, rfl, Nat.zero_le _, rfl⟩
  case round =>
    obtain ⟨k, rfl, rfl, hk, rfl⟩ := hrel
    have hlen := putsBits_len N B k
    by_cases hlt : k < min n 100
    · have i1 : (k : Int) < (n : Int) := by omega
      have i2 : (k : Int) < 100 := by omega
      obtain ⟨ab, ao, rfl, _, hcs⟩ := (H.out.keep hB1).at (i := k) (by omega)
      obtain ⟨_, c1, _⟩ := hcs k (by omega)
      have hsu := putsBits_succ_len N B k
      have hcb := cnt_le (B k)
      have hce : (max 0 (min (B k) 64)) = ((cnt (B k) : Nat) : Int) := by unfold cnt; omega
      obtain ⟨bk, hbk⟩ : ∃ bk, B k = bk := ⟨_, rfl⟩
      rw [hbk] at c1 hce hcb hsu
      obtain ⟨L, hL⟩ : ∃ L, (putsBits N B k).length = L := ⟨_, rfl⟩
      rw [hL] at hlen hsu ⊢
      have HSU := hid hsu
      have HCE := hid hce
      clear hcs hbk hsu hL hce
      go_wp2_with fail
      all_goals
        go_roundw
        case rel => exact ⟨k + 1, by first | rfl | trivial, by go_num, by omega, by rw [HSU.out]; have := HCE.out; congr 1; omega⟩
        case measure => simp [intOf]; omega
    · obtain rfl : k = min n 100 := by omega
      obtain ⟨k, hke⟩ : ∃ k, min n 100 = k := ⟨_, rfl⟩
      rw [hke] at HW hlen ⊢
      have hk100 : k ≤ 100 := by omega
      have hg : ¬ ((k : Int) < (n : Int) ∧ (k : Int) < 100) := by omega
      have hcase : ((k : Int) < (n : Int) ∧ ¬ (k : Int) < 100) ∨ ¬ (k : Int) < (n : Int) := by omega
      obtain ⟨bs, hbs⟩ : ∃ bs, putsBits N B k = bs := ⟨_, rfl⟩
      rw [hbs] at HW hlen ⊢
      clear hke hbs hlt hk hg
      have hby := bytesW S A bs wr HW.out (by omega)
      obtain ⟨L, hL⟩ : ∃ L, bs.length = L := ⟨_, rfl⟩
      have HL := hid hL
      rw [hL] at hlen ⊢
      clear hL
      rcases hcase with ⟨i1, i2⟩ | i1
      all_goals
        go_wp2_with fail
        refine hby.mono ?_
        rintro e w2 ⟨⟨v2, ys, f, rfl, hr2, hp2⟩, b2⟩
        have hB2 := hB1.trans (b2.mono hB1.size)
        obtain ⟨p2, cap2, rfl, ha2⟩ := hr2.arg
        have hle2 := ha2.le; have hmo2 := ha2.most
        unfold maxLen at hmo2
        have hyl : (ys.length : Int) = ((L : Int) + 7) / 8 := by have h1 := hp2.len; have h2 := hp2.few; rw [HL.out] at h1; omega
        have hyL : ys.length ≤ 1000 := by omega
        have hnr := newReader p2 cap2 ys w2 ha2 hp2.byte (by omega)
        have HYL := hid hyl
        have e1 : ((ys.length : Int) != ((L : Int) + 7) / 8) = false := by rw [← hyl]; simp
        clear hby hr2 ha2 hyl hp2 b2 hB1
        go_wp2_with fail
        refine hnr.mono ?_
        rintro e w3 ⟨⟨r, S3, rfl, hr3, hf3⟩, b3⟩
        have hB3 := hB2.trans (b3.mono hB2.size)
        have hF3 : From w.heap.size S3 := ⟨fun k hk => Nat.le_trans hB2.size (hf3.le k hk)⟩
        have hul := unpack_length ys
        obtain ⟨rs, hrs⟩ : ∃ rs, unpack ys = rs := ⟨_, rfl⟩
        rw [hrs] at hr3 hul
        have HUL := hid hul
        have R3 := hid hr3
        clear hnr hr3 hf3 b3 hB2 hrs hul HYL
        go_wp2_with fail
        go_loopw [10] (fun i wr => ∃ (k : Nat), i = .int .i64 k ∧ k ≤ 8 * ys.length ∧ RdAt wr S3 r (rs.drop k) ∧ Below w.heap.size w wr) (fun i _ => 8 * ys.length - (intOf i).toNat)
        case atStart => exact ⟨0, rfl, Nat.zero_le _, R3.out, hB3⟩
        case round =>
          obtain ⟨k, rfl, hk, r4, hB4⟩ := hrel
          clear R3 hB3
          by_cases hlt : k < 8 * ys.length
          · have j1 : (k : Int) < 8 * (ys.length : Int) := by omega
            have hg := getR S3 r _ 1 _ r4
            obtain ⟨y, hv, hb, hd⟩ := get1 (rs := rs.drop k) (by rw [List.length_drop, HUL.out]; omega)
            rw [show cnt 1 = 1 from rfl, hv, hb, hd, List.drop_drop] at hg
            have hy1 : (y.toNat : Int) ≤ 1 := by have := y.toNat_le; omega
            have j2 : ¬ (1 : Int) < (y.toNat : Int) := by omega
            clear hv hb hd r4
            go_wp2_with fail
            refine hg.mono ?_
            rintro e w5 ⟨rfl, r5, f5⟩
            have hB5 := hB4.trans (f5.below hB4.size hF3.le)
            have R5 := hid r5
            clear r5 f5 hg
            go_wp2_with fail
            go_roundw
            case rel => exact ⟨k + 1, by go_num, by omega, R5.out, hB5⟩
            case measure => simp [intOf]; omega
          · obtain rfl : k = 8 * ys.length := by omega
            have j1 : ¬ ((8 * ys.length : Nat) : Int) < 8 * (ys.length : Int) := by omega
            rw [List.drop_of_length_le (by rw [HUL.out]; omega)] at r4
            have hg := getR S3 r _ 1 _ r4
            rw [show cnt 1 = 1 from rfl, show gotV [] 1 = 0 from rfl, show gotB [] 1 = false from rfl, show gotR [] 1 = [] from rfl] at hg
            clear r4
            go_wp2_with fail
            refine hg.mono ?_
            rintro e w5 ⟨rfl, r5, f5⟩
            have hB5 := hB4.trans (f5.below hB4.size hF3.le)
            have hg2 := getR S3 r _ 0 _ r5
            rw [show cnt 0 = 0 from rfl, show gotV [] 0 = 0 from rfl, show gotB [] 0 = true from rfl, show gotR [] 0 = [] from rfl] at hg2
            clear r5 f5 hg hB4
            go_wp2_with fail
            refine hg2.mono ?_
            rintro e w6 ⟨rfl, r6, f6⟩
            have hB6 := hB5.trans (f6.below hB5.size hF3.le)
            have hre := restR S3 r _ _ r6
            rw [show restB [] = true from rfl] at hre
            clear r6 f6 hg2 hB5
            go_wp2_with fail
            refine hre.mono ?_
            rintro e w7 ⟨rfl, _, b7⟩
            have hB7 := hB6.trans (b7.mono hB6.size)
            clear hre
            go_wp2_with fail
            go_ret
            exact ⟨rfl, hB7⟩
end Go.Proofs.Ytnaeloapajhpfaa
