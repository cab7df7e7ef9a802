/- Layer 4 (crc): the walk of the law CrcTells. -/
import Derived.Test.YtablaoapbddhfaaDoorCrB
namespace Go.Proofs.YtablaoapbddhfaaDoor
open Go.RowKit Go.Shelf
set_option linter.unusedVariables false

set_option maxRecDepth 100000 in
set_option maxHeartbeats 4000000 in
theorem crcTells_walk (p : Option Addr) (n cap : Nat) (z : Nat → Int) (a : Int) (w : World) (hT : Tab w) (h : Arg w p n cap fun i => .int .u8 (z i)) (hz : ∀ i, (Lit.int .u8 (z i)).wf = true) (hwa : (Lit.int .u16 a).wf = true) :
    Calls Tryd.prog 3 #[.slice p n cap, .int .u16 a] w fun e w' => e = .returned (.bool true) ∧ Below w.heap.size w w' := by
  have hle := h.le; have hmost := h.most
  obtain ⟨ys, hyl, hy, ha⟩ := h.bytes hz (k := min n 2000) (by omega)
  obtain ⟨a0, rfl, ha0⟩ := u16_nat hwa
  unfold maxLen at hmost
  have hsh := shown w hT
  have HA := hid ha
  have hl2 : ys.length ≤ 2000 := by omega
  have hcv := fun W (hb : Below w.heap.size w W) => conv_arg (HA.out.keep hb)
  have happ := fun W (hb : Below w.heap.size w W) => append_any W p cap ys 22 (HA.out.keep hb) (by omega)
  have hr1 := fun W => refSum ys W hy (by omega)
  have hr2 := fun W => refMore (BitVec.ofNat 16 a0) ys W hy (by omega)
  have hS := fun q c W (hW : Tab W) (hq : Arg W q ys.length c fun i => .int .u8 ((ys.getD i 0 : Nat) : Int)) => sumC q c ys W hW hq hy
  have hM := fun q c W (hW : Tab W) (hq : Arg W q ys.length c fun i => .int .u8 ((ys.getD i 0 : Nat) : Int)) => more (BitVec.ofNat 16 a0) q c ys W hW hq hy
  have e16 : (BitVec.ofNat 16 a0).toNat = a0 := by rw [BitVec.toNat_ofNat]; omega
  rw [e16] at hr2 hM
  obtain ⟨x1, hx1⟩ : ∃ x1, (crc 0xFFFF#16 ys).toNat = x1 := ⟨_, rfl⟩
  obtain ⟨x2, hx2⟩ : ∃ x2, (crc (BitVec.ofNat 16 a0) ys).toNat = x2 := ⟨_, rfl⟩
  obtain ⟨t, ht⟩ : ∃ t, str ys = t := ⟨_, rfl⟩
  rw [hx1] at hr1 hS
  rw [hx2] at hr2 hM
  rw [ht] at hr1 hr2 hcv
  have HAP := hid happ; have HCV := hid hcv; have HS := hid hS; have HM' := hid hM; have HR := hid ht; have HT := hid hT
  clear h hz ha hwa happ hcv hS hM hx1 hx2 ht e16
  obtain ⟨M, hM⟩ : ∃ M, ys.length = M := ⟨_, rfl⟩
  have hcase : ((2000 : Int) < (n : Int) ∧ M = 2000) ∨ ((n : Int) ≤ 2000 ∧ n = M) := by omega
  have HM := hid hM
  clear hyl hM
  rcases hcase with ⟨k1, rfl⟩ | ⟨k1, rfl⟩
  all_goals
    go_enter Tryd.func3, Tryd.ntmps3
    go_wp2_with (first
      | (go_at_call 8; refine hsh.mono ?_; rintro e w0 ⟨rfl, hB0⟩; obtain ⟨v1, w1, hr1', hrow1, hb1⟩ := HAP.out w0 hB0; rw [HM.out] at hr1'; have cv1 := conv_row hrow1; rw [HR.out] at cv1; have cv2 := HCV.out w1 (hB0.trans (hb1.mono hB0.size)); rw [HM.out] at cv2; obtain ⟨p1, cap1, rfl, ha1⟩ := hrow1.arg; have hT1 := HT.out.below (hB0.trans (hb1.mono hB0.size)) HT.out.pos; have hs1 := HS.out p1 cap1 w1 hT1 ha1; have hm1 := HM'.out p1 cap1 w1 hT1 ha1)
      | (at_builtin; refine Lib.wpList_append_run _ rfl _ _ _ _ rfl _ _ rfl rfl _ _ hr1' ?_)
      | (go_at_call 9; refine hs1.mono ?_; rintro e w2 ⟨rfl, rfl⟩)
      | (go_at_call 11; refine hm1.mono ?_; rintro e w2 ⟨rfl, rfl⟩)
      | (go_at_call 10; refine (hr1 _).mono ?_; rintro e w2 ⟨rfl, rfl⟩)
      | (go_at_call 12; refine (hr2 _).mono ?_; rintro e w2 ⟨rfl, rfl⟩))
    go_ret
    exact ⟨rfl, hB0.trans (hb1.mono hB0.size)⟩
end Go.Proofs.YtablaoapbddhfaaDoor
