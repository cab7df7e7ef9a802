/- Layer 4 (crc): the walk of the law CrcNoughts. -/
import Derived.Test.YtablaoapbddhfaaDoorCrA
namespace Go.Proofs.YtablaoapbddhfaaDoor
open Go.RowKit Go.Shelf
set_option linter.unusedVariables false

theorem one_zero (W : World) : Row (W.alloc (.cells #[.int .u8 0] 5)) W.heap.size (.slice (some ⟨W.heap.size, 0, none⟩) 1 1) [0] := row_lit W [0] (by decide)
set_option maxRecDepth 100000 in
set_option maxHeartbeats 4000000 in
theorem crcNoughts_walk (p : Option Addr) (n cap : Nat) (z : Nat → Int) (w : World) (hT : Tab w) (h : Arg w p n cap fun i => .int .u8 (z i)) (hz : ∀ i, (Lit.int .u8 (z i)).wf = true) :
    Calls Tryd.prog 7 #[.slice p n cap] w fun e w' => e = .returned (.bool true) ∧ Below w.heap.size w w' := by
  have hle := h.le; have hmost := h.most
  obtain ⟨ys, hyl, hy, ha⟩ := h.bytes hz (k := min n 500) (by omega)
  unfold maxLen at hmost
  have hsh := shown w hT
  have HA := hid ha; have HT := hid hT
  have hl2 : ys.length ≤ 500 := by omega
  have hS := fun q c us (hu : ∀ y ∈ us, y < 256) W (hW : Tab W) (hq : Arg W q us.length c fun i => .int .u8 ((us.getD i 0 : Nat) : Int)) => sumC q c us W hW hq hu
  -- all that is done behind 'shown'
  have hall : ∀ w0, Below w.heap.size w w0 → ∃ v1 w1 v3 w3 v5 w5, (Builtin.append_ #[22, 22] 22 #[.slice (some ⟨w0.heap.size, 0, none⟩) 0 0, .slice p ys.length cap]).run Tryd.prog (w0.alloc (.cells #[] 5)) = .ok v1 w1 ∧
      (Builtin.append_ #[22, 22] 22 #[v1, .slice (some ⟨w1.heap.size, 0, none⟩) 1 1]).run Tryd.prog (w1.alloc (.cells #[.int .u8 0] 5)) = .ok v3 w3 ∧
      (Builtin.append_ #[22, 22] 22 #[.slice (some ⟨w3.heap.size, 0, none⟩) 1 1, .slice p ys.length cap]).run Tryd.prog (w3.alloc (.cells #[.int .u8 0] 5)) = .ok v5 w5 ∧
      Row w3 w0.heap.size v3 (ys ++ [0]) ∧ Row w5 w3.heap.size v5 (0 :: ys) ∧ Below w.heap.size w w3 ∧ Below w.heap.size w w5 ∧ (∃ q c m, v1 = .slice q m c) := by
    intro w0 hB0
    obtain ⟨v1, w1, r1, row1, b1⟩ := append_any w0 p cap ys 22 (HA.out.keep hB0) (by omega)
    have hB1 := hB0.trans (b1.mono hB0.size)
    have hb2 : Below w1.heap.size w1 (w1.alloc (.cells #[.int .u8 0] 5)) := (Below.refl _ _).alloc (Nat.le_refl _) _
    have hB2 := hB1.trans (hb2.mono hB1.size)
    have row1' := row1.below hb2
    obtain ⟨q2, c2, hq2, ha2⟩ := (one_zero w1).arg
    obtain ⟨v3, w3, r3, row3, b3⟩ := append_row 22 row1' ha2 (by have := b1.size; have := hb2.size; omega) (by simp; omega)
    rw [← hq2] at r3
    have hB3 := hB2.trans (b3.mono hB0.size)
    have hb4 : Below w3.heap.size w3 (w3.alloc (.cells #[.int .u8 0] 5)) := (Below.refl _ _).alloc (Nat.le_refl _) _
    have hB4 := hB3.trans (hb4.mono hB3.size)
    obtain ⟨v5, w5, r5, row5, b5⟩ := append_row 22 (one_zero w3) (HA.out.keep hB4) hb4.size (by simp; omega)
    obtain ⟨q1, c1, hv1, _⟩ := row1.arg
    exact ⟨v1, w1, v3, w3, v5, w5, r1, r3, r5, row3, row5, hB3, hB4.trans (b5.mono hB3.size), ⟨q1, c1, _, hv1⟩⟩
  have hfix : ((crc 0xFFFF#16 (ys ++ [0])).toNat = (crc 0xFFFF#16 ys).toNat) ↔ ((crc 0xFFFF#16 ys).toNat = 0 ∨ (crc 0xFFFF#16 ys).toNat = 61471) := by
    rw [nought_behind]
    have h1 := nought_fix (crc 0xFFFF#16 ys)
    constructor
    · intro he
      rcases h1.1 (BitVec.eq_of_toNat_eq he) with e | e
      · left; rw [e]; rfl
      · right; rw [e]; rfl
    · intro he
      rw [h1.2]
      rcases he with e | e
      · exact .inl (BitVec.eq_of_toNat_eq e)
      · exact .inr (BitVec.eq_of_toNat_eq e)
  have hne : (crc 0xFFFF#16 (0 :: ys)).toNat ≠ (crc 0xFFFF#16 ys).toNat := fun e => nought_ahead ys (BitVec.eq_of_toNat_eq e)
  have hy1 : ∀ y ∈ ys ++ [0], y < 256 := by
    intro y hm; rcases List.mem_append.1 hm with hm | hm
    · exact hy y hm
    · simp at hm; omega
  have hy2 : ∀ y ∈ 0 :: ys, y < 256 := by
    intro y hm; rcases List.mem_cons.1 hm with hm | hm
    · omega
    · exact hy y hm
  have hs0 := fun W (hb : Below w.heap.size w W) => sumC p cap ys W (HT.out.below hb HT.out.pos) (HA.out.keep hb) hy
  have hs1 := fun v W B (hb : Below w.heap.size w W) (hr : Row W B v (ys ++ [0])) => (show Calls Tryd.prog 9 #[v] W fun e w' => e = .returned (.int .u16 ((crc 0xFFFF#16 (ys ++ [0])).toNat : Int)) ∧ w' = W by
    obtain ⟨q, c, rfl, hq⟩ := hr.arg; exact sumC q c _ W (HT.out.below hb HT.out.pos) hq hy1)
  have hs2 := fun v W B (hb : Below w.heap.size w W) (hr : Row W B v (0 :: ys)) => (show Calls Tryd.prog 9 #[v] W fun e w' => e = .returned (.int .u16 ((crc 0xFFFF#16 (0 :: ys)).toNat : Int)) ∧ w' = W by
    obtain ⟨q, c, rfl, hq⟩ := hr.arg; exact sumC q c _ W (HT.out.below hb HT.out.pos) hq hy2)
  obtain ⟨x, hx⟩ : ∃ x, (crc 0xFFFF#16 ys).toNat = x := ⟨_, rfl⟩
  obtain ⟨x1, hx1⟩ : ∃ x1, (crc 0xFFFF#16 (ys ++ [0])).toNat = x1 := ⟨_, rfl⟩
  obtain ⟨x2, hx2⟩ : ∃ x2, (crc 0xFFFF#16 (0 :: ys)).toNat = x2 := ⟨_, rfl⟩
  rw [hx] at hfix hne hs0
  rw [hx1] at hfix hs1
  rw [hx2] at hne hs2
  have HALL := hid hall; have HS0 := hid hs0; have HS1 := hid hs1; have HS2 := hid hs2
  clear h hz ha hT hx hx1 hx2 hall hS hs0 hs1 hs2 hy1 hy2
  obtain ⟨M, hM⟩ : ∃ M, ys.length = M := ⟨_, rfl⟩
  have hcase : ((500 : Int) < (n : Int) ∧ M = 500) ∨ ((n : Int) ≤ 500 ∧ n = M) := by omega
  have hcase2 : (x = 0 ∧ x1 = 0) ∨ (x = 61471 ∧ x1 = 61471) ∨ (x ≠ 0 ∧ x ≠ 61471 ∧ x1 ≠ x) := by omega
  have HM := hid hM
  clear hyl hM hfix
  rcases hcase with ⟨k1, rfl⟩ | ⟨k1, rfl⟩
  all_goals
    rcases hcase2 with ⟨rfl, rfl⟩ | ⟨rfl, rfl⟩ | ⟨g1, g2, g3⟩
    all_goals
      go_enter Tryd.func7, Tryd.ntmps7
      go_wp2_with fail
      refine hsh.mono ?_; rintro e w0 ⟨rfl, hB0⟩
      obtain ⟨v1, w1, v3, w3, v5, w5, r1, r3, r5, row3, row5, hB3, hB5, q1, c1, m1, rfl⟩ := HALL.out w0 hB0
      have hs0 := HS0.out w0 hB0
      rw [HM.out] at r1 r5 hs0
      have hs1 := HS1.out v3 w3 _ hB3 row3
      have hs2 := HS2.out v5 w5 _ hB5 row5
      obtain ⟨q3, c3, rfl, _⟩ := row3.arg
      obtain ⟨q5, c5, rfl, _⟩ := row5.arg
      generalize (ys ++ [0]).length = L3 at *
      generalize (0 :: ys).length = L5 at *
      clear row3 row5 hB3 HALL HS0 HS1 HS2 HA HT hsh HM hB0 hy hl2
      go_wp2_with fail
      refine hs0.mono ?_; rintro e w2 ⟨rfl, rfl⟩
      clear hs0
      go_wp2_with (first
        | (at_builtin; refine Lib.wpList_append_run _ rfl _ _ _ _ rfl _ _ rfl rfl _ _ r1 ?_; clear r1)
        | (at_builtin; refine Lib.wpList_append_run _ rfl _ _ _ _ rfl _ _ rfl rfl _ _ r3 ?_; clear r3))
      refine hs1.mono ?_; rintro e w2 ⟨rfl, rfl⟩
      clear hs1
      go_wp2_with (at_builtin; refine Lib.wpList_append_run _ rfl _ _ _ _ rfl _ _ rfl rfl _ _ r5 ?_; clear r5)
      refine hs2.mono ?_; rintro e w2 ⟨rfl, rfl⟩
      clear hs2
      first
        | (have e1 : ((x1 : Int) == (x : Int)) = false := by simp; omega
           have e2 : ((x : Int) == 0) = false := by simp; omega
           have e3 : ((x : Int) == 61471) = false := by simp; omega
           have e4 : ((x2 : Int) != (x : Int)) = true := by simp; omega
           go_wp2_with fail)
        | (have e4 : ((x2 : Int) != 0) = true := by simp; omega
           go_wp2_with fail)
        | (have e4 : ((x2 : Int) != 61471) = true := by simp; omega
           go_wp2_with fail)
      go_ret
      exact ⟨rfl, hB5⟩
end Go.Proofs.YtablaoapbddhfaaDoor
