/- Layer 3 (bits): the document's own answer: Bytes. -/
import Derived.Test.YtkmiogaklmgnkaaBtS
namespace Go.Proofs.Ytkmiogaklmgnkaa
open Go.RowKit Go.Shelf
set_option linter.unusedVariables false

def szOf : Value → Nat
  | .string b => b.size
  | _ => 0
set_option maxRecDepth 100000 in
set_option maxHeartbeats 2000000 in
theorem refBytes (l : List Bool) (w : World) (hl : l.length ≤ 200000) :
    Calls Try.prog 54 #[.string (txt l)] w fun e w' => (∃ ys, e = .returned (.string (str ys)) ∧ ∃ f, Packs ys f l) ∧ Below w.heap.size w w' := by
  obtain ⟨pad, hpad⟩ : ∃ pad, (8 - l.length % 8) % 8 = pad := ⟨_, rfl⟩
  have hp8 : pad < 8 ∧ (l.length + pad) % 8 = 0 := by omega
  go_enter Try.func54, Try.ntmps54
  go_wp2_with fail
  go_loop [0] (fun s => ∃ j : Nat, j ≤ pad ∧ s = .string (txt (l ++ List.replicate j false))) (fun s => 200100 - szOf s)
  case atStart => exact ⟨0, Nat.zero_le _, by simp⟩
  case round =>
    obtain ⟨j, hj, rfl⟩ := hrel
    have hsz : (txt (l ++ List.replicate j false)).size = l.length + j := by rw [txt_size, List.length_append, List.length_replicate]
    by_cases hlt : j < pad
    · have hta := txt_append (l ++ List.replicate j false) [false]
      rw [txt_zero, List.append_assoc, ← List.replicate_succ'] at hta
      have hz2 : (txt (l ++ List.replicate (j + 1) false)).size = l.length + (j + 1) := by rw [txt_size, List.length_append, List.length_replicate]
      obtain ⟨t, ht⟩ : ∃ t, txt (l ++ List.replicate j false) = t := ⟨_, rfl⟩
      rw [ht] at hsz hta ⊢
      have i1 : ((t.size : Int) % 8 != 0) = true := by
        have : ¬ ((t.size : Int) % 8 = 0) := by omega
        simpa using this
      have z1 : ¬ 9223372036854775807 < t.size + 1 := by omega
      have ht1 : t.size ≤ 200200 := by omega
      have HTA := hid hta; have HZ := hid hsz; have HZ2 := hid hz2
      clear hta ht hsz hz2
      go_wp2_with fail
      go_round
      case rel => exact ⟨j + 1, by omega, by rw [HTA.out]⟩
      case measure => simp only [szOf]; rw [HTA.out, HZ2.out, HZ.out]; omega
    · obtain rfl : j = pad := by omega
      obtain ⟨m, hm⟩ : ∃ m, l.length + j = 8 * m := ⟨(l.length + j) / 8, by omega⟩
      obtain ⟨l2, hl2⟩ : ∃ l2, l ++ List.replicate j false = l2 := ⟨_, rfl⟩
      rw [hl2] at hsz ⊢
      have hlen2 : l2.length = 8 * m := by rw [← hl2, List.length_append, List.length_replicate, hm]
      have hex := fun i => txt_extract l2 i (i + 8)
      obtain ⟨t, ht⟩ : ∃ t, txt l2 = t := ⟨_, rfl⟩
      rw [ht] at hsz hex ⊢
      have i1 : ((t.size : Int) % 8 != 0) = false := by
        have : ((t.size : Int) % 8 = 0) := by omega
        simp [this]
      have ht1 : t.size ≤ 200200 := by omega
      have HEX := hid hex; have HL2 := hid hl2
      have HTM := hid (show t.size = 8 * m by omega)
      have hm1 : m ≤ 25100 := by omega
      clear ht hsz hpad hex hl2
      go_wp2_with fail
      go_loopw [3, 4] (fun o i wr => ∃ k : Nat, k ≤ m ∧ i = .int .i64 ((8 * k : Nat) : Int) ∧ o = .string (str (chunk l2 k)) ∧ Below w.heap.size w wr) (fun _ i _ => 8 * m - (intOf i).toNat)
      case atStart => exact ⟨0, Nat.zero_le _, rfl, rfl, Below.refl _ _⟩
      case round =>
        obtain ⟨k, hk, rfl, rfl, hB⟩ := hrel
        by_cases hlt2 : k < m
        · obtain ⟨i, hi⟩ : ∃ i, 8 * k = i := ⟨_, rfl⟩
          have HI := hid (show 8 * (k + 1) = i + 8 by omega)
          have k1 : (i : Int) < (t.size : Int) := by have := HTM.out; omega
          have k2 : i + 8 ≤ t.size := by have := HTM.out; omega
          have k3 : (i : Int) + 8 ≤ (t.size : Int) := by omega
          have hl8 : ((l2.drop i).take 8).length = 8 := by rw [List.length_take, List.length_drop, hlen2]; omega
          have hnu := refNumber ((l2.drop i).take 8) wr (by omega)
          have hex := HEX.out i
          rw [show i + 8 - i = 8 by omega] at hex
          have hvl := val_lt ((l2.drop i).take 8)
          rw [hl8] at hvl
          have hst := str_append (chunk l2 k) [val ((l2.drop i).take 8)]
          rw [← hi, ← chunk_succ, hi] at hst
          rw [hi]
          obtain ⟨u, hu⟩ : ∃ u, txt ((l2.drop i).take 8) = u := ⟨_, rfl⟩
          obtain ⟨v, hv⟩ : ∃ v, val ((l2.drop i).take 8) = v := ⟨_, rfl⟩
          rw [hu] at hnu hex
          rw [hv] at hnu hvl hst
          have hcv := conv_one wr v
          have hv256 : v < 256 := by omega
          have q2 := wrap_u8 (n := v) (by omega)
          have z1 : ¬ 9223372036854775807 < (str (chunk l2 k)).size + (str [v]).size := by rw [str_size, str_size, chunk_length]; simp; omega
          have HST := hid hst
          clear hu hv hst hl8 hvl hi
          go_wp2_with (go_at_call 61; refine hnu.mono ?_; rintro e w' ⟨rfl, rfl⟩)
          go_roundw
          case rel => exact ⟨k + 1, by omega, by rw [HI.out]; go_num, by rw [HST.out], hB.alloc hB.size _⟩
          case measure => have := HTM.out; simp [intOf]; omega
        · obtain rfl : k = m := by omega
          have k1 : ¬ (((8 * k : Nat) : Int)) < (t.size : Int) := by have := HTM.out; omega
          go_wp2_with fail
          go_ret
          refine ⟨⟨_, rfl, j, ⟨?_, hp8.1, chunk_lt _ _⟩⟩, hB⟩
          rw [chunk_unpack l2 k (by omega), List.take_of_length_le (by omega), HL2.out]
end Go.Proofs.Ytkmiogaklmgnkaa
