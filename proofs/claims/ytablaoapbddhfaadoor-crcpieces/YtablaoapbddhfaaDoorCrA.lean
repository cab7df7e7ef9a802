/- Layer 4 (crc): half, More, Sum; what the statements show first. -/
import Derived.Test.YtablaoapbddhfaaDoorGnA
import Derived.Test.YtablaoapbddhfaaDoorCrM
import Derived.Lib.SlBytesConst
namespace Go.Proofs.YtablaoapbddhfaaDoor
open Go.RowKit Go.Shelf
set_option linter.unusedVariables false

/-- The table lies where the program laid it. -/
structure Tab (w : World) : Prop where
  pos : 0 < w.heap.size
  cell : ∀ i, i < 16 → w.cell? ⟨0, i, none⟩ = some (.int .u16 ((tab i : Nat) : Int))
theorem Tab.below {w w' : World} {B : Nat} (h : Tab w) (hb : Below B w w') (hB : 0 < B) : Tab w' :=
  ⟨Nat.lt_of_lt_of_le h.pos hb.size, fun i hi => (hb.cell (p := ⟨0, i, none⟩) hB).trans (h.cell i hi)⟩
theorem half (s : BitVec 16) (f : Nat) (hf0 : f < 16) (w : World) (h : Tab w) :
    Calls Tryd.prog 13 #[.int .u16 (s.toNat : Int), .int .u8 (f : Int)] w fun e w' => e = .returned (.int .u16 ((hf s f).toNat : Int)) ∧ w' = w := by
  have hv := hf_val s f hf0
  have hs := s.isLt
  have ht : (s.toNat / 4096) ^^^ f < 16 := Nat.xor_lt_two_pow (n := 4) (by omega) (by omega)
  have hc := h.cell _ ht
  have q1 : bits .xor .u16 ((s.toNat : Int) / 4096) (f : Int) = (((s.toNat / 4096) ^^^ f : Nat) : Int) := by
    rw [show (s.toNat : Int) / 4096 = ((s.toNat / 4096 : Nat) : Int) by omega, bits_xor_u16, Nat.mod_eq_of_lt (by omega), Nat.mod_eq_of_lt (by omega)]
  have htl := tab_lt ⟨_, ht⟩
  simp only at htl
  have q2 : bits .xor .u16 (IntKind.u16.wrap ((s.toNat : Int) * 16)) ((tab ((s.toNat / 4096) ^^^ f) : Nat) : Int) = (((hf s f).toNat : Nat) : Int) := by
    rw [← hv]
    have e : IntKind.u16.wrap ((s.toNat : Int) * 16) = ((s.toNat * 16 % 65536 : Nat) : Int) := by
      unfold IntKind.wrap
      simp only [IntKind.signed, Bool.false_and, IntKind.bits]
      rw [if_neg (by simp)]
      omega
    rw [e, bits_xor_u16, Nat.mod_mod, Nat.mod_eq_of_lt (a := tab _) (by omega)]
  obtain ⟨n, hn⟩ : ∃ n, s.toNat = n := ⟨_, rfl⟩
  obtain ⟨t, hte⟩ : ∃ t, (s.toNat / 4096) ^^^ f = t := ⟨_, rfl⟩
  obtain ⟨u, hu⟩ : ∃ u, tab t = u := ⟨_, rfl⟩
  obtain ⟨z, hz⟩ : ∃ z, (hf s f).toNat = z := ⟨_, rfl⟩
  rw [hte] at q1 q2 hc ht
  rw [hn] at q1 q2 hs ⊢
  rw [hu] at q2 hc
  rw [hz] at q2 ⊢
  clear hv htl hn hte hu hz h
  go_enter Tryd.func13, Tryd.ntmps13
  go_wp2
  go_ret
  exact ⟨rfl, rfl⟩
set_option maxRecDepth 100000 in
theorem more (s : BitVec 16) (p : Option Addr) (cap : Nat) (ys : List Nat) (w : World) (hT : Tab w) (h : Arg w p ys.length cap fun i => .int .u8 ((ys.getD i 0 : Nat) : Int)) (hy : ∀ y ∈ ys, y < 256) :
    Calls Tryd.prog 11 #[.int .u16 (s.toNat : Int), .slice p ys.length cap] w fun e w' => e = .returned (.int .u16 ((crc s ys).toNat : Int)) ∧ w' = w := by
  have hle := h.le; have hmost := h.most
  unfold maxLen at hmost
  have H := hid h
  clear h
  go_enter Tryd.func11, Tryd.ntmps11
  go_wp2_with fail
  go_loop [0, 6, 9] (fun a _ i => ∃ k : Nat, k ≤ ys.length ∧ i = .int .i64 k ∧ a = .int .u16 ((crc s (ys.take k)).toNat : Int)) (fun _ _ i => ys.length - (intOf i).toNat)
  case atStart => exact ⟨0, Nat.zero_le _, rfl, rfl⟩
  case round =>
    obtain ⟨k, hk, rfl, rfl⟩ := hrel
    by_cases hlt : k < ys.length
    · have i1 : (k : Int) < (ys.length : Int) := by omega
      obtain ⟨ab, ao, rfl, _, hcs⟩ := H.out.at (i := k) hlt
      have c1 := hcs k hlt
      have hy8 := getD_byte hy k
      have hcr := crc_take s hlt
      obtain ⟨y, hye⟩ : ∃ y, ys.getD k 0 = y := ⟨_, rfl⟩
      rw [hye] at c1 hy8 hcr
      have hh := hf_hf (crc s (ys.take k)) y hy8
      have h1 := half (crc s (ys.take k)) (y / 16) (by omega) w hT
      have h2 := half (hf (crc s (ys.take k)) (y / 16)) (y % 16) (by omega) w hT
      rw [hh, ← hcr] at h2
      have q1 : (y : Int) / 16 = ((y / 16 : Nat) : Int) := by omega
      have q2 : bits .and .u8 (y : Int) 15 = ((y % 16 : Nat) : Int) := by
        rw [show (15 : Int) = ((15 : Nat) : Int) from rfl, bits_and_u8, Nat.mod_eq_of_lt (by omega)]
        have := Nat.and_two_pow_sub_one_eq_mod y 4
        rw [show (2 : Nat) ^ 4 - 1 = 15 from rfl] at this
        rw [show (15 : Nat) % 2 ^ 8 = 15 from rfl, this]
      obtain ⟨a1, ha1⟩ : ∃ a1, (crc s (ys.take k)).toNat = a1 := ⟨_, rfl⟩
      obtain ⟨a2, ha2⟩ : ∃ a2, (hf (crc s (ys.take k)) (y / 16)).toNat = a2 := ⟨_, rfl⟩
      obtain ⟨y1, hy1⟩ : ∃ y1, y / 16 = y1 := ⟨_, rfl⟩
      obtain ⟨y2, hy2⟩ : ∃ y2, y % 16 = y2 := ⟨_, rfl⟩
      rw [ha1] at h1 ⊢
      rw [ha2] at h1 h2
      rw [hy1] at h1 q1
      rw [hy2] at h2 q2
      clear hcs hh hcr ha1 ha2 hy1 hy2 hye
      go_wp2_with fail
      refine h1.mono ?_; rintro e w1 ⟨rfl, rfl⟩
      go_wp2_with fail
      refine h2.mono ?_; rintro e w1 ⟨rfl, rfl⟩
      go_wp2_with fail
      go_round
      case rel => exact ⟨k + 1, by omega, by go_num, rfl⟩
      case measure => simp [intOf]; omega
    · obtain rfl : k = ys.length := by omega
      have i1 : ¬ (ys.length : Int) < (ys.length : Int) := by omega
      rw [List.take_length]
      go_wp2
      go_ret
      exact ⟨rfl, rfl⟩
theorem sumC (p : Option Addr) (cap : Nat) (ys : List Nat) (w : World) (hT : Tab w) (h : Arg w p ys.length cap fun i => .int .u8 ((ys.getD i 0 : Nat) : Int)) (hy : ∀ y ∈ ys, y < 256) :
    Calls Tryd.prog 9 #[.slice p ys.length cap] w fun e w' => e = .returned (.int .u16 ((crc 0xFFFF#16 ys).toNat : Int)) ∧ w' = w := by
  have hm := more 0xFFFF#16 p cap ys w hT h hy
  rw [show ((0xFFFF#16).toNat : Int) = 65535 from rfl] at hm
  obtain ⟨z, hz⟩ : ∃ z, (crc 0xFFFF#16 ys).toNat = z := ⟨_, rfl⟩
  rw [hz] at hm ⊢
  clear h hz
  go_enter Tryd.func9, Tryd.ntmps9
  go_wp2_with (go_at_call 11; refine hm.mono ?_; rintro e w1 ⟨rfl, rfl⟩)
  go_ret
  exact ⟨rfl, rfl⟩
set_option maxRecDepth 100000 in
theorem shown (w : World) (hT : Tab w) :
    Calls Tryd.prog 8 #[] w fun e w' => e = .returned (.bool true) ∧ Below w.heap.size w w' := by
  have kc := Lib.run_convert_bytes_const (P := Tryd.prog) w 22 5 #[.int .u8 49, .int .u8 50, .int .u8 51, .int .u8 52, .int .u8 53, .int .u8 54, .int .u8 55, .int .u8 56, .int .u8 57] 9 9 Tryd.underlying22 Tryd.underlying5
  have hb : Below w.heap.size w (w.alloc (.cells #[.int .u8 49, .int .u8 50, .int .u8 51, .int .u8 52, .int .u8 53, .int .u8 54, .int .u8 55, .int .u8 56, .int .u8 57] 5 (9, 9 + 1))) := (Below.refl _ _).alloc (Nat.le_refl _) _
  have hT1 := hT.below hb hT.pos
  have ha : Arg (w.alloc (.cells #[.int .u8 49, .int .u8 50, .int .u8 51, .int .u8 52, .int .u8 53, .int .u8 54, .int .u8 55, .int .u8 56, .int .u8 57] 5 (9, 9 + 1))) (some ⟨w.heap.size, 0, none⟩) ([49, 50, 51, 52, 53, 54, 55, 56, 57] : List Nat).length 9 fun i => .int .u8 ((([49, 50, 51, 52, 53, 54, 55, 56, 57] : List Nat).getD i 0 : Nat) : Int) := by
    refine ⟨Nat.le_refl _, by unfold maxLen; omega, .inr ⟨_, 0, rfl, by simp, fun i hi => ?_⟩⟩
    rw [cell_of_row _ _ _ _ _ _ (heap_alloc_new w _)]
    have : i = 0 ∨ i = 1 ∨ i = 2 ∨ i = 3 ∨ i = 4 ∨ i = 5 ∨ i = 6 ∨ i = 7 ∨ i = 8 := by simp at hi; omega
    rcases this with rfl | rfl | rfl | rfl | rfl | rfl | rfl | rfl | rfl <;> rfl
  have h1 := sumC _ _ _ _ hT1 ha (by decide)
  have h2 := sumC none 0 [] _ hT1 ⟨Nat.le_refl _, by unfold maxLen; omega, .inl rfl⟩ (by simp)
  rw [crc_nine] at h1
  rw [crc_nil] at h2
  rw [show ((0x29B1#16).toNat : Int) = 10673 from rfl] at h1
  rw [show ((0xFFFF#16).toNat : Int) = 65535 from rfl] at h2
  clear ha hT1 hT
  go_enter Tryd.func8, Tryd.ntmps8
  go_wp2_with fail
  refine h1.mono ?_; rintro e w1 ⟨rfl, rfl⟩
  go_wp2_with (go_at_call 9; refine h2.mono ?_; rintro e w1 ⟨rfl, rfl⟩)
  go_ret
  exact ⟨rfl, hb⟩
end Go.Proofs.YtablaoapbddhfaaDoor
