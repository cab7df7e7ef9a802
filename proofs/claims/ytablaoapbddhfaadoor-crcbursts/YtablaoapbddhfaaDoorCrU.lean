/- Layer 4 (crc): the walk of the law CrcBursts. -/
import Derived.Test.YtablaoapbddhfaaDoorCrA
namespace Go.Proofs.YtablaoapbddhfaaDoor
open Go.RowKit Go.Shelf
set_option linter.unusedVariables false

theorem lit123 (W : World) : Row (W.alloc (.cells #[.int .u8 1, .int .u8 2, .int .u8 3] 5)) W.heap.size (.slice (some ⟨W.heap.size, 0, none⟩) 3 3) [1, 2, 3] := row_lit W [1, 2, 3] (by decide)
/-- One bit more turned. -/
theorem burst_step {bs os : List Nat} {L at0 k t q r : Nat} (ht : t < 2 ^ 16) (hl : os.length = L) (hk : k < 16) (hat : at0 + 15 < 8 * L) (hq : q = (at0 + k) / 8) (hr : r = (at0 + k) % 8) (hodd : t / 2 ^ (15 - k) % 2 = 1)
    (h : crc 0xFFFF#16 os = crc 0xFFFF#16 bs ^^^ dbls (8 * L - at0) (tops t k)) :
    crc 0xFFFF#16 (os.set q (os.getD q 0 ^^^ (128 / 2 ^ r))) = crc 0xFFFF#16 bs ^^^ dbls (8 * L - at0) (tops t (k + 1)) := by
  rw [crc_turn _ os q r (by omega) (by omega), h, tops_odd ht hk hodd, dbls_xor, ← BitVec.xor_assoc, hl, ← dbls_bit (show k ≤ 15 by omega), ← dbls_add]
  congr 2
  omega
theorem burst_end {bs os : List Nat} {M t : Nat} (ht : t < 2 ^ 16) (h : crc 0xFFFF#16 os = crc 0xFFFF#16 bs ^^^ dbls M (tops t 16)) : (crc 0xFFFF#16 bs).toNat = (crc 0xFFFF#16 os).toNat ↔ t = 0 := by
  rw [tops_all] at h
  constructor
  · intro e
    have e1 := BitVec.eq_of_toNat_eq e
    rw [h] at e1
    have e2 := congrArg (crc 0xFFFF#16 bs ^^^ ·) e1
    simp only [← BitVec.xor_assoc, BitVec.xor_self, BitVec.zero_xor] at e2
    have e3 := congrArg BitVec.toNat (dbls_eq_zero e2.symm)
    rw [BitVec.toNat_ofNat, Nat.mod_eq_of_lt ht] at e3
    exact e3
  · rintro rfl
    rw [h, show BitVec.ofNat 16 0 = 0#16 from rfl, dbls_zero, BitVec.xor_zero]
theorem set_byte {os : List Nat} (h : ∀ y ∈ os, y < 256) {q v : Nat} (hv : v < 256) : ∀ y ∈ os.set q v, y < 256 := by
  intro y hy
  rcases List.mem_or_eq_of_mem_set hy with hy | rfl
  · exact h y hy
  · exact hv
set_option maxRecDepth 100000 in
set_option maxHeartbeats 4000000 in
theorem crcBursts_walk (p : Option Addr) (n cap : Nat) (z : Nat → Int) (a t : Int) (w : World) (hT : Tab w) (h : Arg w p n cap fun i => .int .u8 (z i)) (hz : ∀ i, (Lit.int .u8 (z i)).wf = true) (hwa : (Lit.int .i64 a).wf = true) (hwt : (Lit.int .u16 t).wf = true) :
    Calls Tryd.prog 5 #[.slice p n cap, .int .i64 a, .int .u16 t] w fun e w' => e = .returned (.bool true) ∧ Below w.heap.size w w' := by
  have hle := h.le; have hmost := h.most
  obtain ⟨ys, hyl, hy, ha⟩ := h.bytes hz (k := min n 500) (by omega)
  obtain ⟨t0, rfl, ht0⟩ := u16_nat hwt
  obtain ⟨a0, ha0, hm0⟩ := mask (m := 65535) (x := a) (k := 16) (by decide) (by decide)
  unfold maxLen at hmost
  have hsh := shown w hT
  have HA := hid ha; have HT := hid hT
  have hl2 : ys.length ≤ 500 := by omega
  obtain ⟨bs, hbs⟩ : ∃ bs, ys ++ [1, 2, 3] = bs := ⟨_, rfl⟩
  have hbl : bs.length = ys.length + 3 := by rw [← hbs]; simp
  have hby : ∀ y ∈ bs, y < 256 := by
    rw [← hbs]
    intro y hm; rcases List.mem_append.1 hm with hm | hm
    · exact hy y hm
    · simp at hm; omega
  have hall : ∀ w0, Below w.heap.size w w0 → ∃ q1 c1 m1 w1 q3 c3 w3 g4 c4 w4, (Builtin.append_ #[22, 22] 22 #[.slice (some ⟨w0.heap.size, 0, none⟩) 0 0, .slice p ys.length cap]).run Tryd.prog (w0.alloc (.cells #[] 5)) = .ok (.slice q1 m1 c1) w1 ∧
      (Builtin.append_ #[22, 22] 22 #[.slice q1 m1 c1, .slice (some ⟨w1.heap.size, 0, none⟩) 3 3]).run Tryd.prog (w1.alloc (.cells #[.int .u8 1, .int .u8 2, .int .u8 3] 5)) = .ok (.slice q3 bs.length c3) w3 ∧
      (Builtin.append_ #[22, 22] 22 #[.slice (some ⟨w3.heap.size, 0, none⟩) 0 0, .slice q3 bs.length c3]).run Tryd.prog (w3.alloc (.cells #[] 5)) = .ok (.slice (some ⟨g4, 0, none⟩) bs.length c4) w4 ∧
      (Arg w3 q3 bs.length c3 fun i => .int .u8 ((bs.getD i 0 : Nat) : Int)) ∧ Row w4 w3.heap.size (.slice (some ⟨g4, 0, none⟩) bs.length c4) bs ∧ Below w.heap.size w w3 ∧ Below w3.heap.size w3 w4 ∧ bs.length ≤ c4 ∧ c4 ≤ maxLen := by
    intro w0 hB0
    obtain ⟨v1, w1, r1, row1, b1⟩ := append_any w0 p cap ys 22 (HA.out.keep hB0) (by omega)
    have hB1 := hB0.trans (b1.mono hB0.size)
    have hb2 : Below w1.heap.size w1 (w1.alloc (.cells #[.int .u8 1, .int .u8 2, .int .u8 3] 5)) := (Below.refl _ _).alloc (Nat.le_refl _) _
    have hB2 := hB1.trans (hb2.mono hB1.size)
    have row1' := row1.below hb2
    obtain ⟨q2, c2, hq2, ha2⟩ := (lit123 w1).arg
    obtain ⟨v3, w3, r3, row3, b3⟩ := append_row 22 row1' ha2 (by have := b1.size; have := hb2.size; omega) (by simp; omega)
    rw [← hq2] at r3
    rw [hbs] at row3
    have hB3 := hB2.trans (b3.mono hB0.size)
    obtain ⟨q1, c1, rfl, _⟩ := row1.arg
    obtain ⟨q3, c3, rfl, ha3⟩ := row3.arg
    obtain ⟨v4, w4, r4, row4, b4⟩ := append_any w3 q3 c3 bs 22 ha3 (by omega)
    obtain ⟨g4, c4, rfl, hl4, hm4, _⟩ := row4.at (j := 0) (by omega)
    exact ⟨q1, c1, _, w1, q3, c3, w3, g4, c4, w4, r1, r3, r4, ha3, row4, hB3, b4, hl4, hm4⟩
  have hS := fun q c us (hu : ∀ y ∈ us, y < 256) W (hb : Below w.heap.size w W) (hq : Arg W q us.length c fun i => .int .u8 ((us.getD i 0 : Nat) : Int)) => sumC q c us W (HT.out.below hb HT.out.pos) hq hu
  obtain ⟨L, hL⟩ : ∃ L, bs.length = L := ⟨_, rfl⟩
  have hL3 : 3 ≤ L ∧ L ≤ 503 := by omega
  obtain ⟨at0, hat⟩ : ∃ at0, a0 % (8 * L - 15) = at0 := ⟨_, rfl⟩
  have hat2 : at0 < 8 * L - 15 := by rw [← hat]; exact Nat.mod_lt _ (by omega)
  have hrem : ((a0 : Int)).tmod (8 * (L : Int) - 15) = (at0 : Int) := by
    rw [Int.tmod_eq_emod_of_nonneg (by omega), ← hat, show 8 * (L : Int) - 15 = ((8 * L - 15 : Nat) : Int) by omega, ← Int.natCast_emod]
  have hL8 : ¬ (8 * (L : Int) - 15 = 0) := by omega
  have HALL := hid hall; have HS := hid hS
  clear h hz ha hT hall hS hwt hwa hat hbs
  obtain ⟨M, hM⟩ : ∃ M, ys.length = M := ⟨_, rfl⟩
  have hcase : ((500 : Int) < (n : Int) ∧ M = 500) ∨ ((n : Int) ≤ 500 ∧ n = M) := by omega
  have HM := hid hM; have HL := hid hL
  clear hyl hM hbl hL
  rcases hcase with ⟨k1, rfl⟩ | ⟨k1, rfl⟩
  all_goals
    go_enter Tryd.func5, Tryd.ntmps5
    go_wp2_with fail
    refine hsh.mono ?_; rintro e w0 ⟨rfl, hB0⟩
    obtain ⟨q1, c1, m1, w1, q3, c3, w3, g4, c4, w4, r1, r3, r4, ha3, row4, hB3, hb4, hl4, hm4⟩ := HALL.out w0 hB0
    rw [HM.out] at r1
    rw [HL.out] at r3 r4 hl4
    have HA3 := hid ha3; have HR4 := hid row4; have HB3 := hid hB3; have HB4 := hid hb4
    unfold maxLen at hm4
    clear HALL hsh ha3 row4 HA hB0 HM hB3 hb4
    go_wp2_with (first
      | (at_builtin; refine Lib.wpList_append_run _ rfl _ _ _ _ rfl _ _ rfl rfl _ _ r1 ?_; clear r1)
      | (at_builtin; refine Lib.wpList_append_run _ rfl _ _ _ _ rfl _ _ rfl rfl _ _ r3 ?_; clear r3)
      | (at_builtin; refine Lib.wpList_append_run _ rfl _ _ _ _ rfl _ _ rfl rfl _ _ r4 ?_; clear r4))
    go_loopw [9, 10] (fun i _ wr => ∃ (k : Nat) (os : List Nat), i = .int .i64 k ∧ k ≤ 16 ∧ os.length = L ∧ (∀ y ∈ os, y < 256) ∧ crc 0xFFFF#16 os = crc 0xFFFF#16 bs ^^^ dbls (8 * L - at0) (tops t0 k) ∧ Row wr w3.heap.size (.slice (some ⟨g4, 0, none⟩) L c4) os ∧ Below w3.heap.size w3 wr) (fun i _ _ => 16 - (intOf i).toNat)
    case atStart => exact ⟨0, bs, rfl, Nat.zero_le _, HL.out, hby, by rw [tops_zero (by omega), dbls_zero, BitVec.xor_zero], by rw [← HL.out]; exact HR4.out, HB4.out⟩
    case round =>
      obtain ⟨k, os, rfl, hk, hol, hoy, hcr, hrow, hB⟩ := hrel
      clear HR4 HB4
      by_cases hlt : k < 16
      · have i1 : (k : Int) < 16 := by omega
        have hw1 : IntKind.u64.wrap (15 - (k : Int)) = ((15 - k : Nat) : Int) := by
          rw [show 15 - (k : Int) = ((15 - k : Nat) : Int) by omega]; exact wrap_u64 (by omega)
        have hand : bits .and .u16 ((t0 : Int) / 2 ^ (15 - k)) 1 = ((t0 / 2 ^ (15 - k) % 2 : Nat) : Int) := by
          rw [div_pow_cast, show (1 : Int) = ((1 : Nat) : Int) from rfl, bits_and_u16, show (1 : Nat) % 2 ^ 16 = 1 from rfl, Nat.and_one_is_mod]
          congr 1; omega
        have hodd : t0 / 2 ^ (15 - k) % 2 = 0 ∨ t0 / 2 ^ (15 - k) % 2 = 1 := by omega
        rcases hodd with hodd | hodd
        · rw [hodd] at hand
          have hte := tops_even hlt hodd
          rw [← hte] at hcr
          have HCR := hid hcr; have HROW := hid hrow; have HOY := hid hoy
          clear hodd hte hcr hrow hoy
          go_wp2_with fail
          go_roundw
          case rel => exact ⟨k + 1, os, by go_num, by omega, hol, HOY.out, HCR.out, HROW.out, hB⟩
          case measure => simp [intOf]; omega
        · rw [hodd] at hand
          obtain ⟨j, hj⟩ : ∃ j, at0 + k = j := ⟨_, rfl⟩
          obtain ⟨q, hq⟩ : ∃ q, j / 8 = q := ⟨_, rfl⟩
          obtain ⟨r, hr⟩ : ∃ r, j % 8 = r := ⟨_, rfl⟩
          have hst := burst_step (q := q) (r := r) (by omega) hol hlt (by omega) (by omega) (by omega) hodd hcr
          have hqL : q < os.length := by omega
          have j1 : (at0 : Int) + (k : Int) = (j : Int) := by omega
          have j2 : (j : Int) / 8 = (q : Int) := by omega
          have j3 : (j : Int) % 8 = (r : Int) := by omega
          have j4 := wrap_u64 (n := r) (by omega)
          have j5 : (128 : Int) / 2 ^ r = ((128 / 2 ^ r : Nat) : Int) := div_pow_cast 128 r
          have hm8 : 128 / 2 ^ r < 256 := Nat.lt_of_le_of_lt (Nat.div_le_self _ _) (by decide)
          have hr8 : r < 8 := by omega
          have hy8 := getD_byte hoy q
          obtain ⟨g5, c5, hv5, _, _, hg5, hcs, hfs⟩ := hrow.at (j := q) hqL
          rw [hol] at hv5
          cases hv5
          have cc := hcs q hqL
          have ff := hfs q
          obtain ⟨y, hye⟩ : ∃ y, os.getD q 0 = y := ⟨_, rfl⟩
          obtain ⟨m, hme⟩ : ∃ m, 128 / 2 ^ r = m := ⟨_, rfl⟩
          rw [hye] at cc hy8 hst
          rw [hme] at j5 hm8 hst
          have j6 := bits_xor_u8 y m
          rw [Nat.mod_eq_of_lt (by omega), Nat.mod_eq_of_lt (by omega)] at j6
          have hv8 : y ^^^ m < 256 := Nat.xor_lt_two_pow (n := 8) (by omega) (by omega)
          obtain ⟨v, hve⟩ : ∃ v, y ^^^ m = v := ⟨_, rfl⟩
          rw [hve] at j6 hv8 hst
          have hset := hrow.set q v
          have hoy' := set_byte hoy (q := q) hv8
          have hB' : Below w3.heap.size w3 (wr.setCell ⟨g4, q, none⟩ (.int .u8 (v : Int))) := hB.setCell (p := ⟨g4, q, none⟩) hg5 _
          have hqL' : (q : Int) < (L : Int) := by omega
          have HST := hid hst; have HSET := hid hset; have HOY := hid hoy'; have HB := hid hB'
          clear hodd hst hset hoy' hB' hcs hfs hrow hcr hoy hye hme hve hj hq hr hB
          go_wp2_with fail
          go_roundw
          case rel => exact ⟨k + 1, os.set q v, by go_num, by omega, by rw [List.length_set]; exact hol, HOY.out, HST.out, HSET.out, HB.out⟩
          case measure => simp [intOf]; omega
      · obtain rfl : k = 16 := by omega
        have hend := burst_end (by omega) hcr
        obtain ⟨q, c, hv, ha⟩ := hrow.arg
        rw [hol] at hv
        cases hv
        have hBw := HB3.out.trans (hB.mono HB3.out.size)
        have s1 := HS.out q3 c3 bs hby wr hBw (HA3.out.keep hB)
        have s2 := HS.out _ _ os hoy wr hBw ha
        rw [HL.out] at s1
        rw [hol] at s2
        obtain ⟨x1, hx1⟩ : ∃ x, (crc 0xFFFF#16 bs).toNat = x := ⟨_, rfl⟩
        obtain ⟨x2, hx2⟩ : ∃ x, (crc 0xFFFF#16 os).toNat = x := ⟨_, rfl⟩
        rw [hx1] at s1 hend
        rw [hx2] at s2 hend
        have hcs : (t0 = 0 ∧ x1 = x2) ∨ (((x1 : Int) == (x2 : Int)) = false ∧ ((t0 : Int) == 0) = false) := by
          by_cases e : t0 = 0
          · exact .inl ⟨e, hend.2 e⟩
          · refine .inr ⟨?_, ?_⟩
            · have : ¬ x1 = x2 := fun h => e (hend.1 h)
              simp; omega
            · simp; omega
        clear hend hcr hrow HS HA3 HB3 hx1 hx2 ha hoy
        rcases hcs with ⟨rfl, rfl⟩ | ⟨e1, e2⟩
        all_goals
          go_wp2_with fail
          refine s1.mono ?_; rintro e w5 ⟨rfl, rfl⟩
          clear s1
          go_wp2_with (go_at_call 9; refine s2.mono ?_; rintro e w6 ⟨rfl, rfl⟩)
          go_ret
          exact ⟨rfl, hBw⟩
end Go.Proofs.YtablaoapbddhfaaDoor
