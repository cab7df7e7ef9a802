/- Layer 4 (crc): the sums themselves, as sixteen bits; no program. -/
import Derived.Test.YtablaoapbddhfaaDoorRows
namespace Go.Proofs.YtablaoapbddhfaaDoor
set_option linter.unusedVariables false

/-- One doubling. -/
def dbl (s : BitVec 16) : BitVec 16 := (s <<< 1) ^^^ (if s.msb then 0x1021#16 else 0#16)
/-- So many. -/
def dbls : Nat → BitVec 16 → BitVec 16
  | 0, s => s
  | n + 1, s => dbl (dbls n s)
theorem dbl_zero : dbl 0#16 = 0#16 := by decide
theorem dbl_xor (a b : BitVec 16) : dbl (a ^^^ b) = dbl a ^^^ dbl b := by
  unfold dbl
  rw [BitVec.shiftLeft_xor_distrib, BitVec.msb_xor]
  cases a.msb <;> cases b.msb
  · show _ ^^^ _ ^^^ 0#16 = _ ^^^ 0#16 ^^^ (_ ^^^ 0#16); simp
  · show _ ^^^ _ ^^^ 0x1021#16 = _ ^^^ 0#16 ^^^ (_ ^^^ 0x1021#16); rw [BitVec.xor_zero, BitVec.xor_assoc]
  · show _ ^^^ _ ^^^ 0x1021#16 = _ ^^^ 0x1021#16 ^^^ (_ ^^^ 0#16)
    rw [BitVec.xor_zero, BitVec.xor_assoc, BitVec.xor_assoc, BitVec.xor_comm (0x1021#16)]
  · show _ ^^^ _ ^^^ 0#16 = _ ^^^ 0x1021#16 ^^^ (_ ^^^ 0x1021#16)
    rw [BitVec.xor_zero, BitVec.xor_assoc, BitVec.xor_comm (b <<< 1), ← BitVec.xor_assoc (0x1021#16), BitVec.xor_self, BitVec.zero_xor]
theorem dbls_zero (n : Nat) : dbls n 0#16 = 0#16 := by
  induction n with
  | zero => rfl
  | succ n ih => rw [dbls, ih, dbl_zero]
theorem dbls_xor (n : Nat) (a b : BitVec 16) : dbls n (a ^^^ b) = dbls n a ^^^ dbls n b := by
  induction n with
  | zero => rfl
  | succ n ih => rw [dbls, ih, dbl_xor]; rfl
theorem dbls_add (m n : Nat) (s : BitVec 16) : dbls (m + n) s = dbls m (dbls n s) := by
  induction m with
  | zero => rw [Nat.zero_add]; rfl
  | succ m ih => rw [Nat.succ_add, dbls, ih]; rfl
theorem dbl_eq_zero {s : BitVec 16} (h : dbl s = 0#16) : s = 0#16 := by
  unfold dbl at h
  cases hm : s.msb with
  | true =>
    rw [hm, if_pos rfl] at h
    have h0 := congrArg (fun x : BitVec 16 => x.getLsbD 0) h
    simp at h0
  | false =>
    rw [hm, if_neg (by decide), BitVec.xor_zero] at h
    have hl : s.toNat < 2 ^ 15 := by
      have := BitVec.msb_eq_decide s
      rw [hm] at this
      simp at this
      omega
    have h1 := congrArg BitVec.toNat h
    rw [BitVec.toNat_shiftLeft, Nat.shiftLeft_eq] at h1
    apply BitVec.eq_of_toNat_eq
    have : (0#16).toNat = 0 := rfl
    rw [this] at h1 ⊢
    omega
theorem dbls_eq_zero {n : Nat} {s : BitVec 16} (h : dbls n s = 0#16) : s = 0#16 := by
  induction n with
  | zero => exact h
  | succ n ih => exact ih (dbl_eq_zero h)
theorem xor_eq_zero {a b : BitVec 16} : a ^^^ b = 0#16 ↔ a = b := by
  constructor
  · intro h
    have := congrArg (· ^^^ b) h
    simpa [BitVec.xor_assoc] using this
  · rintro rfl; exact BitVec.xor_self
theorem dbls_inj {n : Nat} {a b : BitVec 16} (h : dbls n a = dbls n b) : a = b := by
  refine xor_eq_zero.1 (dbls_eq_zero (n := n) ?_)
  rw [dbls_xor, h, BitVec.xor_self]
theorem dbls_inj_iff {n : Nat} {a b : BitVec 16} : dbls n a = dbls n b ↔ a = b := ⟨dbls_inj, fun h => by rw [h]⟩
/-- What has no high bits is only moved. -/
theorem dbl_low {s : BitVec 16} (h : s.toNat < 2 ^ 15) : (dbl s).toNat = 2 * s.toNat := by
  have hm : s.msb = false := by
    rw [BitVec.msb_eq_decide]; simp; omega
  unfold dbl
  rw [hm, if_neg (by decide), BitVec.xor_zero, BitVec.toNat_shiftLeft, Nat.shiftLeft_eq]
  omega
theorem dbls_low {n : Nat} {s : BitVec 16} (h : s.toNat * 2 ^ n < 2 ^ 16) : (dbls n s).toNat = s.toNat * 2 ^ n := by
  induction n with
  | zero => simp [dbls]
  | succ n ih =>
    rw [Nat.pow_succ] at h
    have h1 : s.toNat * 2 ^ n < 2 ^ 15 := by
      rw [← Nat.mul_assoc] at h; omega
    have h2 := ih (by omega)
    rw [dbls, dbl_low (by omega), h2, Nat.pow_succ, Nat.mul_comm (2 ^ n) 2, ← Nat.mul_assoc, ← Nat.mul_assoc, Nat.mul_comm s.toNat 2]
/-- A byte, as what is xored. -/
def up (y : Nat) : BitVec 16 := BitVec.ofNat 16 (256 * y)
/-- A sum with a byte behind it. -/
def stp (s : BitVec 16) (y : Nat) : BitVec 16 := dbls 8 (s ^^^ up y)
/-- A sum with bytes behind it. -/
def crc (s : BitVec 16) (ys : List Nat) : BitVec 16 := ys.foldl stp s
theorem crc_nil (s : BitVec 16) : crc s [] = s := rfl
theorem crc_cons (s : BitVec 16) (y : Nat) (ys : List Nat) : crc s (y :: ys) = crc (stp s y) ys := rfl
theorem crc_append (s : BitVec 16) (xs ys : List Nat) : crc s (xs ++ ys) = crc (crc s xs) ys := by unfold crc; rw [List.foldl_append]
theorem crc_xor (a b : BitVec 16) (ys : List Nat) : crc (a ^^^ b) ys = crc a ys ^^^ dbls (8 * ys.length) b := by
  induction ys generalizing a b with
  | nil => rfl
  | cons y ys ih =>
    rw [crc_cons, crc_cons]
    have e : stp (a ^^^ b) y = stp a y ^^^ dbls 8 b := by
      unfold stp
      rw [← dbls_xor]; congr 1
      rw [BitVec.xor_assoc, BitVec.xor_comm b, ← BitVec.xor_assoc]
    rw [e, ih, ← dbls_add, List.length_cons, Nat.mul_succ]
theorem crc_inj {a b : BitVec 16} {ys : List Nat} : crc a ys = crc b ys ↔ a = b := by
  constructor
  · intro h
    have e : crc a ys = crc b ys ^^^ dbls (8 * ys.length) (b ^^^ a) := by
      rw [← crc_xor]; congr 1
      rw [← BitVec.xor_assoc, BitVec.xor_self, BitVec.zero_xor]
    rw [h] at e
    have e2 := congrArg (crc b ys ^^^ ·) e
    simp only [← BitVec.xor_assoc, BitVec.xor_self, BitVec.zero_xor] at e2
    exact (xor_eq_zero.1 (dbls_eq_zero e2.symm)).symm
  · rintro rfl; rfl
theorem up_xor {x y : Nat} : up (x ^^^ y) = up x ^^^ up y := by
  unfold up
  apply BitVec.eq_of_toNat_eq
  rw [BitVec.toNat_xor, BitVec.toNat_ofNat, BitVec.toNat_ofNat, BitVec.toNat_ofNat]
  apply Nat.eq_of_testBit_eq
  intro i
  rw [Nat.testBit_xor, Nat.testBit_mod_two_pow, Nat.testBit_mod_two_pow, Nat.testBit_mod_two_pow]
  have e : (256 : Nat) = 2 ^ 8 := rfl
  rw [e, Nat.testBit_two_pow_mul, Nat.testBit_two_pow_mul, Nat.testBit_two_pow_mul, Nat.testBit_xor]
  cases decide (i < 16) <;> cases decide (i ≥ 8) <;> simp
/-- Three rows of one length, xored. -/
def mix (a b c : List Nat) : List Nat := (List.range a.length).map fun i => a.getD i 0 ^^^ b.getD i 0 ^^^ c.getD i 0
theorem mix_nil : mix [] [] [] = [] := rfl
theorem mix_cons (x y z : Nat) (a b c : List Nat) : mix (x :: a) (y :: b) (z :: c) = (x ^^^ y ^^^ z) :: mix a b c := by
  unfold mix
  rw [List.length_cons, List.range_succ_eq_map, List.map_cons, List.map_map]
  rfl
theorem crc_mix : ∀ (a b c : List Nat) (s t u : BitVec 16), a.length = b.length → a.length = c.length → crc (s ^^^ t ^^^ u) (mix a b c) = crc s a ^^^ crc t b ^^^ crc u c
  | [], [], [], s, t, u, _, _ => rfl
  | [], _ :: _, _, _, _, _, h, _ => by simp at h
  | [], [], _ :: _, _, _, _, _, h => by simp at h
  | _ :: _, [], _, _, _, _, h, _ => by simp at h
  | _ :: _, _ :: _, [], _, _, _, _, h => by simp at h
  | x :: a, y :: b, z :: c, s, t, u, h1, h2 => by
    rw [mix_cons, crc_cons, crc_cons, crc_cons, crc_cons]
    have e : stp (s ^^^ t ^^^ u) (x ^^^ y ^^^ z) = stp s x ^^^ stp t y ^^^ stp u z := by
      unfold stp
      rw [← dbls_xor, ← dbls_xor, up_xor, up_xor]; congr 1
      apply BitVec.eq_of_getLsbD_eq
      intro i _
      simp only [BitVec.getLsbD_xor]
      cases s.getLsbD i <;> cases t.getLsbD i <;> cases u.getLsbD i <;> cases (up x).getLsbD i <;> cases (up y).getLsbD i <;> cases (up z).getLsbD i <;> rfl
    rw [e]
    exact crc_mix a b c _ _ _ (by simpa using h1) (by simpa using h2)
theorem split_bytes (s : BitVec 16) : s = up (s.toNat / 256) ^^^ BitVec.ofNat 16 (s.toNat % 256) := by
  have hs := s.isLt
  apply BitVec.eq_of_toNat_eq
  unfold up
  rw [BitVec.toNat_xor, BitVec.toNat_ofNat, BitVec.toNat_ofNat, Nat.mod_eq_of_lt (by omega), Nat.mod_eq_of_lt (by omega)]
  apply Nat.eq_of_testBit_eq
  intro i
  rw [Nat.testBit_xor, show (256 : Nat) = 2 ^ 8 from rfl, Nat.testBit_two_pow_mul, Nat.testBit_mod_two_pow, Nat.testBit_div_two_pow]
  by_cases hi : i < 8
  · simp [hi, Nat.not_le.2 hi]
  · have h8 : 8 ≤ i := Nat.le_of_not_lt hi
    simp [hi, h8, Nat.sub_add_cancel h8]
theorem dbls_byte {n : Nat} (h : n < 256) : dbls 8 (BitVec.ofNat 16 n) = up n := by
  apply BitVec.eq_of_toNat_eq
  have h1 : (BitVec.ofNat 16 n).toNat = n := by rw [BitVec.toNat_ofNat]; omega
  rw [dbls_low (by rw [h1]; omega), h1]
  unfold up
  rw [BitVec.toNat_ofNat]; omega
/-- The sum behind, the higher byte first. -/
theorem crc_own (s : BitVec 16) : crc s [s.toNat / 256, s.toNat % 256] = 0#16 := by
  have hs := s.isLt
  have e1 : s ^^^ up (s.toNat / 256) = BitVec.ofNat 16 (s.toNat % 256) := by
    conv => lhs; lhs; rw [split_bytes s]
    rw [BitVec.xor_comm (up _), BitVec.xor_assoc, BitVec.xor_self, BitVec.xor_zero]
  have e2 : dbls 8 (BitVec.ofNat 16 (s.toNat % 256)) = up (s.toNat % 256) := dbls_byte (by omega)
  rw [crc_cons, crc_cons, crc_nil]
  unfold stp
  rw [e1, e2, BitVec.xor_self, dbls_zero]
/-- The bit that a number of places from the top is. -/
def bitAt (j : Nat) : BitVec 16 := BitVec.ofNat 16 (2 ^ (15 - j))
theorem bitAt_toNat {j : Nat} : (bitAt j).toNat = 2 ^ (15 - j) := by
  unfold bitAt
  rw [BitVec.toNat_ofNat, Nat.mod_eq_of_lt]
  exact Nat.pow_lt_pow_right (by decide) (by omega)
theorem dbls_bit {j : Nat} (h : j ≤ 15) : dbls j (bitAt j) = bitAt 0 := by
  apply BitVec.eq_of_toNat_eq
  have e : 2 ^ (15 - j) * 2 ^ j = 2 ^ 15 := by rw [← Nat.pow_add]; congr 1; omega
  rw [dbls_low (by rw [bitAt_toNat, e]; decide), bitAt_toNat, e, bitAt_toNat]
theorem up_bit {r : Nat} (h : r < 8) : up (128 / 2 ^ r) = bitAt r := by
  unfold up bitAt
  congr 1
  have : r = 0 ∨ r = 1 ∨ r = 2 ∨ r = 3 ∨ r = 4 ∨ r = 5 ∨ r = 6 ∨ r = 7 := by omega
  rcases this with rfl | rfl | rfl | rfl | rfl | rfl | rfl | rfl <;> rfl
/-- A bit turned. -/
theorem crc_turn (s : BitVec 16) (ys : List Nat) (q r : Nat) (hq : q < ys.length) (hr : r < 8) :
    crc s (ys.set q (ys.getD q 0 ^^^ (128 / 2 ^ r))) = crc s ys ^^^ dbls (8 * ys.length - (8 * q + r)) (bitAt 0) := by
  have e0 : ys = ys.take q ++ ys.getD q 0 :: ys.drop (q + 1) := by
    have h1 : ys.getD q 0 = ys[q] := by simp [hq]
    rw [h1, ← List.drop_eq_getElem_cons hq, List.take_append_drop]
  have e1 : ys.set q (ys.getD q 0 ^^^ (128 / 2 ^ r)) = ys.take q ++ (ys.getD q 0 ^^^ (128 / 2 ^ r)) :: ys.drop (q + 1) := List.set_eq_take_append_cons_drop .. |>.trans (if_pos hq)
  obtain ⟨y, hy⟩ : ∃ y, ys.getD q 0 = y := ⟨_, rfl⟩
  rw [hy] at e0 e1 ⊢
  rw [e1]
  conv => rhs; lhs; rw [e0]
  rw [crc_append, crc_append, crc_cons, crc_cons]
  have e2 : stp (crc s (ys.take q)) (y ^^^ (128 / 2 ^ r)) = stp (crc s (ys.take q)) y ^^^ dbls 8 (bitAt r) := by
    unfold stp
    rw [← dbls_xor, up_xor, up_bit hr, BitVec.xor_assoc]
  rw [e2, crc_xor, ← dbls_add]
  congr 1
  rw [← dbls_bit (show r ≤ 15 by omega), ← dbls_add, List.length_drop]
  congr 1
  omega
/-- The first bits of a number. -/
def tops (t i : Nat) : BitVec 16 := BitVec.ofNat 16 (t / 2 ^ (16 - i) * 2 ^ (16 - i))
theorem tops_zero {t : Nat} (h : t < 2 ^ 16) : tops t 0 = 0#16 := by
  unfold tops; rw [Nat.sub_zero, Nat.div_eq_of_lt h, Nat.zero_mul]
theorem tops_all (t : Nat) : tops t 16 = BitVec.ofNat 16 t := by unfold tops; simp
theorem tops_even {t i : Nat} (hi : i < 16) (h : t / 2 ^ (15 - i) % 2 = 0) : tops t (i + 1) = tops t i := by
  unfold tops
  congr 1
  have e : 16 - i = (15 - i) + 1 := by omega
  rw [show 16 - (i + 1) = 15 - i by omega, e, Nat.pow_succ, ← Nat.div_div_eq_div_mul, Nat.mul_comm (2 ^ (15 - i)) 2, ← Nat.mul_assoc]
  congr 1
  omega
theorem tops_odd {t i : Nat} (ht : t < 2 ^ 16) (hi : i < 16) (h : t / 2 ^ (15 - i) % 2 = 1) : tops t (i + 1) = tops t i ^^^ bitAt i := by
  unfold tops bitAt
  apply BitVec.eq_of_toNat_eq
  have e : 16 - i = (15 - i) + 1 := by omega
  rw [show 16 - (i + 1) = 15 - i by omega, e, Nat.pow_succ, ← Nat.div_div_eq_div_mul]
  obtain ⟨d, hd⟩ : ∃ d, t / 2 ^ (15 - i) = d := ⟨_, rfl⟩
  rw [hd] at h ⊢
  obtain ⟨m, rfl⟩ : ∃ m, d = 2 * m + 1 := ⟨d / 2, by omega⟩
  have hm : (2 * m + 1) / 2 = m := by omega
  rw [hm]
  have hle : (2 * m + 1) * 2 ^ (15 - i) ≤ t := by rw [← hd]; exact Nat.div_mul_le_self _ _
  have hx : m * (2 ^ (15 - i) * 2) + 2 ^ (15 - i) = (2 * m + 1) * 2 ^ (15 - i) := by
    rw [Nat.add_mul, Nat.one_mul, Nat.mul_comm (2 ^ (15 - i)) 2, ← Nat.mul_assoc, Nat.mul_comm m 2]
  have hp : 0 < 2 ^ (15 - i) := Nat.pow_pos (by decide)
  rw [BitVec.toNat_xor, BitVec.toNat_ofNat, BitVec.toNat_ofNat, BitVec.toNat_ofNat, Nat.mod_eq_of_lt (by omega), Nat.mod_eq_of_lt (by omega), Nat.mod_eq_of_lt (by omega), ← hx]
  have h3 := Nat.two_pow_add_eq_or_of_lt (i := 15 - i + 1) (b := 2 ^ (15 - i)) (Nat.pow_lt_pow_right (by decide) (by omega)) m
  rw [Nat.pow_succ, Nat.mul_comm _ m] at h3
  rw [h3]
  apply Nat.eq_of_testBit_eq
  intro j
  rw [Nat.testBit_or, Nat.testBit_xor]
  have h4 : ((m * (2 ^ (15 - i) * 2)).testBit j && (2 ^ (15 - i)).testBit j) = false := by
    rw [Nat.testBit_two_pow, ← Nat.pow_succ, Nat.mul_comm, Nat.testBit_two_pow_mul]
    by_cases hj : 15 - i = j
    · have : ¬ j ≥ (15 - i).succ := by omega
      simp [this]
    · simp [hj]
  revert h4
  cases (m * (2 ^ (15 - i) * 2)).testBit j <;> cases (2 ^ (15 - i)).testBit j <;> simp
/-- Which sums a nought behind leaves. -/
theorem nought_table : ∀ h : Fin 256, (dbls 8 (up h.val) ^^^ up ((dbls 8 (up h.val)).toNat % 256) = up h.val ^^^ BitVec.ofNat 16 ((dbls 8 (up h.val)).toNat % 256)) → (h.val = 0 ∨ h.val = 240) := by decide +kernel
theorem nought_fix (s : BitVec 16) : dbls 8 s = s ↔ (s = 0#16 ∨ s = 0xF01F#16) := by
  constructor
  · intro h
    have hs := s.isLt
    have e0 : s = up (s.toNat / 256) ^^^ BitVec.ofNat 16 (s.toNat % 256) := split_bytes s
    have hlo : dbls 8 (BitVec.ofNat 16 (s.toNat % 256)) = up (s.toNat % 256) := dbls_byte (by omega)
    rw [e0, dbls_xor, hlo] at h
    obtain ⟨hi, hhi⟩ : ∃ hi, s.toNat / 256 = hi := ⟨_, rfl⟩
    obtain ⟨lo, hlo2⟩ : ∃ lo, s.toNat % 256 = lo := ⟨_, rfl⟩
    rw [hhi, hlo2] at h e0
    have hhi2 : hi < 256 := by omega
    have hlo3 : lo < 256 := by omega
    obtain ⟨t, ht⟩ : ∃ t, dbls 8 (up hi) = t := ⟨_, rfl⟩
    have h2 : t = up hi ^^^ up lo ^^^ BitVec.ofNat 16 lo := by
      rw [ht] at h
      have := congrArg (· ^^^ up lo) h
      simp only [BitVec.xor_assoc, BitVec.xor_self, BitVec.xor_zero] at this
      rw [this, BitVec.xor_assoc, BitVec.xor_comm (BitVec.ofNat 16 lo)]
    have h3 : t.toNat % 256 = lo := by
      rw [h2, ← up_xor, BitVec.toNat_xor]
      unfold up
      rw [BitVec.toNat_ofNat, BitVec.toNat_ofNat, show (256 : Nat) = 2 ^ 8 from rfl]
      apply Nat.eq_of_testBit_eq
      intro j
      rw [Nat.testBit_mod_two_pow, Nat.testBit_xor, Nat.testBit_mod_two_pow, Nat.testBit_mod_two_pow, Nat.testBit_two_pow_mul]
      by_cases hj : j < 8
      · have h16 : j < 16 := by omega
        simp [hj, h16, Nat.not_le.2 hj]
      · simp only [hj, decide_false, Bool.false_and]
        exact (Nat.testBit_lt_two_pow (Nat.lt_of_lt_of_le hlo3 (Nat.pow_le_pow_right (n := 2) (i := 8) (by decide) (by omega)))).symm
    have h4 := nought_table ⟨hi, hhi2⟩
    simp only [ht, h3] at h4
    rw [ht] at h
    rcases h4 h with rfl | rfl
    · left
      have : lo = 0 := by rw [← h3, ← ht]; decide +kernel
      rw [e0, this]; decide
    · right
      have : lo = 31 := by rw [← h3, ← ht]; decide +kernel
      rw [e0, this]; decide
  · rintro (rfl | rfl) <;> decide +kernel
/-- The table, as it is laid. -/
def turnsL : List Int := [0, 4129, 8258, 12387, 16516, 20645, 24774, 28903, 33032, 37161, 41290, 45419, 49548, 53677, 57806, 61935]
def tab (t : Nat) : Nat := (turnsL.getD t 0).toNat
theorem tab_dbls : ∀ t : Fin 16, dbls 4 (BitVec.ofNat 16 (2 ^ 12 * t.val)) = BitVec.ofNat 16 (tab t.val) := by decide +kernel
theorem tab_int : ∀ t : Fin 16, turnsL.getD t.val 0 = ((tab t.val : Nat) : Int) := by decide
theorem tab_lt : ∀ t : Fin 16, tab t.val < 65536 := by decide
theorem nat_split (k x : Nat) : 2 ^ k * (x / 2 ^ k) ^^^ x % 2 ^ k = x := by
  apply Nat.eq_of_testBit_eq
  intro i
  rw [Nat.testBit_xor, Nat.testBit_two_pow_mul, Nat.testBit_mod_two_pow, Nat.testBit_div_two_pow]
  by_cases hi : i < k
  · simp [hi, Nat.not_le.2 hi]
  · have h8 : k ≤ i := Nat.le_of_not_lt hi
    simp [hi, h8, Nat.sub_add_cancel h8]
theorem pow_xor (k x y : Nat) : 2 ^ k * (x ^^^ y) = 2 ^ k * x ^^^ 2 ^ k * y := by
  apply Nat.eq_of_testBit_eq
  intro i
  rw [Nat.testBit_xor, Nat.testBit_two_pow_mul, Nat.testBit_two_pow_mul, Nat.testBit_two_pow_mul, Nat.testBit_xor]
  cases decide (i ≥ k) <;> simp
theorem ofNat_xor (x y : Nat) : BitVec.ofNat 16 (x ^^^ y) = BitVec.ofNat 16 x ^^^ BitVec.ofNat 16 y := by
  apply BitVec.eq_of_toNat_eq
  rw [BitVec.toNat_xor, BitVec.toNat_ofNat, BitVec.toNat_ofNat, BitVec.toNat_ofNat, ← Nat.xor_mod_two_pow]
theorem dbls_ofNat {k n : Nat} (h : n * 2 ^ k < 2 ^ 16) : dbls k (BitVec.ofNat 16 n) = BitVec.ofNat 16 (n * 2 ^ k) := by
  have hp : 0 < 2 ^ k := Nat.pow_pos (by decide)
  have hn : n < 2 ^ 16 := Nat.lt_of_le_of_lt (Nat.le_mul_of_pos_right n hp) h
  apply BitVec.eq_of_toNat_eq
  rw [dbls_low (by rw [BitVec.toNat_ofNat, Nat.mod_eq_of_lt hn]; exact h), BitVec.toNat_ofNat, BitVec.toNat_ofNat, Nat.mod_eq_of_lt hn, Nat.mod_eq_of_lt h]
/-- A sum with half a byte behind it. -/
def hf (s : BitVec 16) (f : Nat) : BitVec 16 := dbls 4 (s ^^^ BitVec.ofNat 16 (2 ^ 12 * f))
theorem hf_val (s : BitVec 16) (f : Nat) (hf0 : f < 16) : (s.toNat * 16 % 65536) ^^^ tab ((s.toNat / 4096) ^^^ f) = (hf s f).toNat := by
  have hs := s.isLt
  have ht : (s.toNat / 4096) ^^^ f < 16 := Nat.xor_lt_two_pow (n := 4) (by omega) (by omega)
  have e0 : s = BitVec.ofNat 16 (2 ^ 12 * (s.toNat / 2 ^ 12)) ^^^ BitVec.ofNat 16 (s.toNat % 2 ^ 12) := by
    rw [← ofNat_xor, nat_split, BitVec.ofNat_toNat]; simp
  unfold hf
  conv => rhs; rw [e0]
  rw [BitVec.xor_assoc, BitVec.xor_comm (BitVec.ofNat 16 (s.toNat % 2 ^ 12)), ← BitVec.xor_assoc, ← ofNat_xor, ← pow_xor, dbls_xor, dbls_ofNat (n := s.toNat % 2 ^ 12) (by omega)]
  have h1 := tab_dbls ⟨_, ht⟩
  have h2 := tab_lt ⟨_, ht⟩
  simp only at h1 h2
  rw [show (2 : Nat) ^ 12 = 4096 from rfl] at *
  rw [h1, BitVec.xor_comm, BitVec.toNat_xor, BitVec.toNat_ofNat, BitVec.toNat_ofNat, Nat.mod_eq_of_lt (a := tab _) (by omega)]
  congr 1
  omega
theorem hf_hf (s : BitVec 16) (x : Nat) (hx : x < 256) : hf (hf s (x / 16)) (x % 16) = stp s x := by
  unfold hf stp up
  have e1 : BitVec.ofNat 16 (2 ^ 12 * (x % 16)) = dbls 4 (BitVec.ofNat 16 (2 ^ 8 * (x % 16))) := by
    rw [dbls_ofNat (by omega)]; congr 1; omega
  rw [e1, ← dbls_xor, ← dbls_add, BitVec.xor_assoc, ← ofNat_xor]
  congr 3
  have e2 : 2 ^ 12 * (x / 16) = 2 ^ 8 * (2 ^ 4 * (x / 2 ^ 4)) := by omega
  rw [e2, ← pow_xor]
  congr 1
  exact nat_split 4 x
theorem crc_nine : crc 0xFFFF#16 [49, 50, 51, 52, 53, 54, 55, 56, 57] = 0x29B1#16 := by decide +kernel
/-- A nought ahead. -/
theorem nought_ahead (ys : List Nat) : crc 0xFFFF#16 (0 :: ys) ≠ crc 0xFFFF#16 ys := by
  rw [crc_cons]
  intro h
  have := crc_inj.1 h
  revert this
  decide +kernel
theorem nought_behind (s : BitVec 16) (ys : List Nat) : crc s (ys ++ [0]) = dbls 8 (crc s ys) := by
  rw [crc_append, crc_cons, crc_nil]
  unfold stp
  congr 1
  exact BitVec.xor_zero
theorem getD_byte {ys : List Nat} (h : ∀ y ∈ ys, y < 256) (k : Nat) : ys.getD k 0 < 256 := by
  rcases Nat.lt_or_ge k ys.length with hk | hk
  · rw [List.getD_eq_getElem?_getD, List.getElem?_eq_getElem hk]; exact h _ (List.getElem_mem _)
  · rw [List.getD_eq_getElem?_getD, List.getElem?_eq_none hk]; decide
theorem take_snoc (ys : List Nat) {k : Nat} (h : k < ys.length) : ys.take (k + 1) = ys.take k ++ [ys.getD k 0] := by
  rw [List.take_succ_eq_append_getElem h]; congr 2; simp [h]
theorem crc_take (s : BitVec 16) {ys : List Nat} {k : Nat} (h : k < ys.length) : crc s (ys.take (k + 1)) = stp (crc s (ys.take k)) (ys.getD k 0) := by
  rw [take_snoc ys h, crc_append]; rfl
end Go.Proofs.YtablaoapbddhfaaDoor
