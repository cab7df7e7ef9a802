/- Layer 3 (bits): the document's own answers: Count, Text. -/
import Derived.Test.YtkmiogaklmgnkaaBtJ
namespace Go.Proofs.Ytkmiogaklmgnkaa
open Go.RowKit Go.Shelf
set_option linter.unusedVariables false

/-- Bits as a text of 0 and 1. -/
def txt (l : List Bool) : ByteArray := ⟨(l.map fun b => if b then (49 : UInt8) else 48).toArray⟩
theorem txt_size (l : List Bool) : (txt l).size = l.length := by simp [txt, ByteArray.size]
theorem txt_append (l m : List Bool) : txt l ++ txt m = txt (l ++ m) := by
  apply ByteArray.ext; simp [txt]
theorem txt_one (b : Bool) : str [48 + b.toNat] = txt [b] := by cases b <;> rfl
theorem refCount (x : Int) (w : World) :
    Calls Try.prog 70 #[.int .i64 x] w fun e w' => e = .returned (.int .i64 (cnt x : Nat)) ∧ w' = w := by
  go_enter Try.func70, Try.ntmps70
  go_wp2
  all_goals go_ret
  all_goals exact ⟨ret_int (by unfold cnt; omega), rfl⟩
theorem conv_one (w : World) (y : Nat) : (convert 25 9 (.slice (some ⟨w.heap.size, 0, none⟩) 1 1)).run Try.prog (w.alloc (.cells #[.int .u8 (y : Int)] 5)) = .ok (.string (str [y])) (w.alloc (.cells #[.int .u8 (y : Int)] 5)) :=
  conv_arg (ys := [y]) ⟨Nat.le_refl _, by unfold maxLen; omega, .inr ⟨_, 0, rfl, by simp, fun i hi => by
      obtain rfl : i = 0 := by simp at hi; omega
      rw [cell_of_row _ _ _ _ _ _ (heap_alloc_new w _)]; rfl⟩⟩
set_option maxRecDepth 100000 in
set_option maxHeartbeats 2000000 in
theorem refText (N : Nat) (x : Int) (w : World) (hN : N < 2 ^ 64) :
    Calls Try.prog 52 #[.int .u64 (N : Int), .int .i64 x] w fun e w' => e = .returned (.string (txt (low N (cnt x)))) ∧ Below w.heap.size w w' := by
  have hcn := refCount x
  have hc64 := cnt_le x
  obtain ⟨c, hc⟩ : ∃ c, cnt x = c := ⟨_, rfl⟩
  rw [hc] at hcn hc64 ⊢
  clear hc
  go_enter Try.func52, Try.ntmps52
  go_wp2_with fail
  go_loopw [0, 5, 6] (fun n s i wr => ∃ k : Nat, k ≤ c ∧ i = .int .i64 k ∧ n = .int .u64 ((N / 2 ^ k : Nat) : Int) ∧ s = .string (txt (low N k)) ∧ Below w.heap.size w wr) (fun _ _ i _ => c - (intOf i).toNat)
  case atStart => exact ⟨0, Nat.zero_le _, rfl, by simp, rfl, Below.refl _ _⟩
  case round =>
    obtain ⟨k, hk, rfl, rfl, rfl, hB⟩ := hrel
    have hm : N / 2 ^ k < 2 ^ 64 := Nat.lt_of_le_of_lt (Nat.div_le_self _ _) hN
    have hb : (N.testBit k).toNat = N / 2 ^ k % 2 := testBit_toNat N k
    have hd : N / 2 ^ (k + 1) = N / 2 ^ k / 2 := by rw [Nat.pow_succ, Nat.div_div_eq_div_mul]
    have hs : low N (k + 1) = N.testBit k :: low N k := rfl
    obtain ⟨m, hme⟩ : ∃ m, N / 2 ^ k = m := ⟨_, rfl⟩
    rw [hme] at hm hb hd ⊢
    have HD := hid hd; have HS := hid hs; have HB := hid hb
    clear hd hs hb hme
    by_cases hlt : k < c
    · have i1 : (k : Int) < (c : Int) := by omega
      obtain ⟨y, hy⟩ : ∃ y : Nat, 48 + m % 2 = y := ⟨_, rfl⟩
      have hye : (48 : Int) + (m : Int) % 2 = (y : Int) := by omega
      have hy2 : y < 50 := by omega
      have hcv := conv_one wr y
      have hst : str [y] = txt [N.testBit k] := by rw [← txt_one, HB.out, hy]
      rw [hst] at hcv
      have q1 := wrap_u64 (n := y) (by omega)
      have q2 := wrap_u8 (n := y) (by omega)
      have z1 : (txt [N.testBit k]).size + (txt (low N k)).size ≤ 100 := by rw [txt_size, txt_size, low_length, List.length_singleton]; omega
      have hta := txt_append [N.testBit k] (low N k)
      have HTA := hid hta
      clear hy hst hta
      go_wp2_with (go_at_call 70; refine (hcn _).mono ?_; rintro e w' ⟨rfl, rfl⟩)
      go_roundw
      case rel => exact ⟨k + 1, by omega, by go_num, by rw [HD.out]; go_num, by rw [HTA.out, HS.out]; rfl, hB.alloc hB.size _⟩
      case measure => simp [intOf]; omega
    · obtain rfl : k = c := by omega
      have i1 : ¬ (k : Int) < (k : Int) := by omega
      go_wp2_with (go_at_call 70; refine (hcn _).mono ?_; rintro e w' ⟨rfl, rfl⟩)
      go_ret
      exact ⟨rfl, hB⟩
end Go.Proofs.Ytkmiogaklmgnkaa
