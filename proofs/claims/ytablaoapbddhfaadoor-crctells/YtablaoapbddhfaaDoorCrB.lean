/- Layer 4 (crc): the document's own answers: More, Sum. -/
import Derived.Test.YtablaoapbddhfaaDoorCrA
import Derived.PlainAid
namespace Go.Proofs.YtablaoapbddhfaaDoor
open Go.RowKit Go.Shelf
set_option linter.unusedVariables false

theorem str_at {ys : List Nat} (hy : ∀ y ∈ ys, y < 256) {k : Nat} (hk : k < ys.length) : PlainAid.bt (str ys) k = ((ys.getD k 0 : Nat) : Int) := by
  have hs : k < (str ys).size := by rw [str_size]; exact hk
  unfold PlainAid.bt
  rw [dif_pos hs]
  have e : (str ys)[k] = UInt8.ofNat (ys.getD k 0) := by
    show (str ys).data[k] = _
    simp [str, strOfNums, hk]
  rw [e]
  have := getD_byte hy k
  obtain ⟨y, hye⟩ : ∃ y, ys.getD k 0 = y := ⟨_, rfl⟩
  rw [hye] at this ⊢
  simp
  omega
theorem w16 (n : Nat) : IntKind.u16.wrap ((n : Int) * 2) = ((n * 2 % 65536 : Nat) : Int) := by
  unfold IntKind.wrap
  simp only [IntKind.signed, Bool.false_and, IntKind.bits]
  rw [if_neg (by simp)]
  omega
theorem dbl_hi (s : BitVec 16) (h : 32768 ≤ s.toNat) : bits .xor .u16 (IntKind.u16.wrap ((s.toNat : Int) * 2)) 4129 = ((dbl s).toNat : Int) := by
  rw [w16, show (4129 : Int) = ((4129 : Nat) : Int) from rfl, bits_xor_u16, Nat.mod_mod]
  have hm : s.msb = true := by rw [BitVec.msb_eq_decide]; simpa using h
  unfold dbl
  rw [hm, if_pos rfl, BitVec.toNat_xor, BitVec.toNat_shiftLeft, Nat.shiftLeft_eq]
  rfl
theorem dbl_lo (s : BitVec 16) (h : s.toNat < 32768) : IntKind.u16.wrap ((s.toNat : Int) * 2) = ((dbl s).toNat : Int) := by
  rw [w16, dbl_low h]; congr 1; omega
theorem up_in (s : BitVec 16) (y : Nat) (hy : y < 256) : bits .xor .u16 (s.toNat : Int) ((y : Int) * 256) = ((s ^^^ up y).toNat : Int) := by
  have hs := s.isLt
  rw [show (y : Int) * 256 = ((256 * y : Nat) : Int) by omega, bits_xor_u16, BitVec.toNat_xor, Nat.mod_eq_of_lt hs]
  rfl
set_option maxRecDepth 100000 in
theorem refMore (s : BitVec 16) (ys : List Nat) (w : World) (hy : ∀ y ∈ ys, y < 256) (hl : ys.length ≤ 100000) :
    Calls Tryd.prog 12 #[.int .u16 (s.toNat : Int), .string (str ys)] w fun e w' => e = .returned (.int .u16 ((crc s ys).toNat : Int)) ∧ w' = w := by
  have hsz := str_size ys
  have hat : ∀ k, k < ys.length → PlainAid.bt (str ys) k = ((ys.getD k 0 : Nat) : Int) := fun k hk => str_at hy hk
  obtain ⟨t, ht⟩ : ∃ t, str ys = t := ⟨_, rfl⟩
  rw [ht] at hsz hat ⊢
  have HAT := hid hat
  clear ht hat
  go_enter Tryd.func12, Tryd.ntmps12
  go_wp2_with fail
  go_loop [0, 5, 6, 7] (fun a i _ _ => ∃ k : Nat, k ≤ ys.length ∧ i = .int .i64 k ∧ a = .int .u16 ((crc s (ys.take k)).toNat : Int)) (fun _ i _ _ => ys.length - (intOf i).toNat)
  case atStart => exact ⟨0, Nat.zero_le _, rfl, rfl⟩
  case round =>
    obtain ⟨k, hk, rfl, rfl⟩ := hrel
    by_cases hlt : k < ys.length
    · have i1 : (k : Int) < (t.size : Int) := by omega
      have hlt' : k < t.size := by omega
      have hb := PlainAid.get_bt t
      have hb1 := HAT.out k hlt
      have hy8 := getD_byte hy k
      have hcr := crc_take s hlt
      obtain ⟨y, hye⟩ : ∃ y, ys.getD k 0 = y := ⟨_, rfl⟩
      rw [hye] at hb1 hy8 hcr
      have q1 := up_in (crc s (ys.take k)) y hy8
      have q0 : IntKind.u16.wrap ((y : Int) * 256) = (y : Int) * 256 := by
        rw [show (y : Int) * 256 = ((y * 256 : Nat) : Int) by omega]; exact wrap_u16 (by omega)
      unfold stp at hcr
      obtain ⟨a0, ha0⟩ : ∃ a0, crc s (ys.take k) ^^^ up y = a0 := ⟨_, rfl⟩
      rw [ha0] at q1 hcr
      have HCR := hid hcr
      clear hcr ha0 hye
      go_wp2_with fail
      clear q0 q1 hb hb1
      go_loop [0, 6, 7] (fun a i _ => ∃ j : Nat, j ≤ 8 ∧ i = .int .i64 j ∧ a = .int .u16 ((dbls j a0).toNat : Int)) (fun _ i _ => 8 - (intOf i).toNat)
      case atStart => exact ⟨0, Nat.zero_le _, rfl, rfl⟩
      case round =>
        obtain ⟨j, hj, rfl, rfl⟩ := hrel
        by_cases hjt : j < 8
        · have j1 : (j : Int) < 8 := by omega
          have hn : dbls (j + 1) a0 = dbl (dbls j a0) := rfl
          obtain ⟨d, hd⟩ : ∃ d, dbls j a0 = d := ⟨_, rfl⟩
          rw [hd] at hn ⊢
          have q5 := dbl_hi d
          have q6 := dbl_lo d
          have HN := hid hn
          obtain ⟨n, hnn⟩ : ∃ n, d.toNat = n := ⟨_, rfl⟩
          obtain ⟨m, hmm⟩ : ∃ m, (dbl d).toNat = m := ⟨_, rfl⟩
          rw [hnn, hmm] at q5 q6
          rw [hnn]
          have HM := hid hmm
          clear hn hd hnn hmm
          by_cases htop : 32768 ≤ n
          · have t1 : (32768 : Int) ≤ (n : Int) := by omega
            have q5 := q5 htop
            clear q6
            go_wp2_with fail
            go_round
            case rel => exact ⟨j + 1, by omega, by go_num, by rw [HN.out, HM.out]⟩
            case measure => simp [intOf]; omega
          · have t1 : ¬ (32768 : Int) ≤ (n : Int) := by omega
            have q6 := q6 (by omega)
            clear q5
            go_wp2_with fail
            go_round
            case rel => exact ⟨j + 1, by omega, by go_num, by rw [HN.out, HM.out]⟩
            case measure => simp [intOf]; omega
        · obtain rfl : j = 8 := by omega
          go_wp2_with fail
          go_round
          case rel => exact ⟨k + 1, by omega, by go_num, by rw [HCR.out]⟩
          case measure => simp [intOf]; omega
    · obtain rfl : k = ys.length := by omega
      have i1 : ¬ (ys.length : Int) < (t.size : Int) := by omega
      rw [List.take_length]
      go_wp2
      go_ret
      exact ⟨rfl, rfl⟩
theorem refSum (ys : List Nat) (w : World) (hy : ∀ y ∈ ys, y < 256) (hl : ys.length ≤ 100000) :
    Calls Tryd.prog 10 #[.string (str ys)] w fun e w' => e = .returned (.int .u16 ((crc 0xFFFF#16 ys).toNat : Int)) ∧ w' = w := by
  have hm := refMore 0xFFFF#16 ys w hy hl
  rw [show ((0xFFFF#16).toNat : Int) = 65535 from rfl] at hm
  obtain ⟨z, hz⟩ : ∃ z, (crc 0xFFFF#16 ys).toNat = z := ⟨_, rfl⟩
  rw [hz] at hm ⊢
  clear hz
  go_enter Tryd.func10, Tryd.ntmps10
  go_wp2_with (go_at_call 12; refine hm.mono ?_; rintro e w1 ⟨rfl, rfl⟩)
  go_ret
  exact ⟨rfl, rfl⟩
end Go.Proofs.YtablaoapbddhfaaDoor
