/- Layer 3 (bits): numbers bit by bit, without the program. -/
import Derived.Laws.Entries
namespace Go.Proofs.Ytkmiogaklmgnkaa
set_option linter.unusedVariables false

/-- The lowest bits of a number, the highest first. -/
def low (n : Nat) : Nat → List Bool
  | 0 => []
  | c + 1 => n.testBit c :: low n c
theorem low_length (n c : Nat) : (low n c).length = c := by induction c with | zero => rfl | succ c ih => simp [low, ih]
theorem low_drop (n : Nat) {c k : Nat} (h : k ≤ c) : (low n c).drop k = low n (c - k) := by
  induction c generalizing k with
  | zero => simp [low]
  | succ c ih =>
    cases k with
    | zero => rfl
    | succ k => rw [low, List.drop_succ_cons, ih (by omega)]; congr 1; omega
theorem low_get (n : Nat) {c k : Nat} (h : k < c) : (low n c)[k]? = some (n.testBit (c - 1 - k)) := by
  induction c generalizing k with
  | zero => omega
  | succ c ih =>
    cases k with
    | zero => simp [low]
    | succ k => simp only [low, List.getElem?_cons_succ]; rw [ih (by omega)]; congr 2; omega
theorem low_take_succ (n : Nat) {c k : Nat} (h : k < c) : (low n c).take (k + 1) = (low n c).take k ++ [n.testBit (c - 1 - k)] := by
  rw [List.take_add_one, low_get n h]; rfl
/-- The number of bits. -/
def val (l : List Bool) : Nat := l.foldl (fun n b => 2 * n + b.toNat) 0
theorem val_snoc (l : List Bool) (b : Bool) : val (l ++ [b]) = 2 * val l + b.toNat := by simp [val]
theorem val_lt (l : List Bool) : val l < 2 ^ l.length := by
  obtain ⟨n, hn⟩ : ∃ n, l.length = n := ⟨_, rfl⟩
  induction n generalizing l with
  | zero => rw [List.length_eq_zero_iff.1 hn]; simp [val]
  | succ n ih =>
    obtain ⟨m, b, rfl⟩ : ∃ m b, l = m ++ [b] := ⟨l.dropLast, l.getLast (by intro e; simp [e] at hn), (List.dropLast_concat_getLast _).symm⟩
    have h := ih m (by simpa using hn)
    rw [val_snoc, List.length_append, List.length_singleton, Nat.pow_succ]; have := b.toNat_le; omega
theorem mod_succ (n c : Nat) : n % 2 ^ (c + 1) = (n.testBit c).toNat * 2 ^ c + n % 2 ^ c := by
  rw [Nat.mod_pow_succ, Nat.toNat_testBit, Nat.mul_comm, Nat.add_comm]
theorem val_foldl (l : List Bool) (n : Nat) : l.foldl (fun n b => 2 * n + b.toNat) n = n * 2 ^ l.length + val l := by
  induction l generalizing n with
  | nil => simp [val]
  | cons b l ih => simp only [List.foldl_cons, val, List.length_cons]; rw [ih, ih (2 * 0 + b.toNat), Nat.pow_succ]; simp only [Nat.mul_zero, Nat.zero_add, Nat.add_mul]; rw [show 2 * n * 2 ^ l.length = n * (2 ^ l.length * 2) by rw [Nat.mul_comm 2 n, Nat.mul_assoc, Nat.mul_comm 2]]; omega
theorem val_cons (b : Bool) (l : List Bool) : val (b :: l) = b.toNat * 2 ^ l.length + val l := by
  rw [val, List.foldl_cons, val_foldl]; simp
theorem val_append (l m : List Bool) : val (l ++ m) = val l * 2 ^ m.length + val m := by
  rw [val, List.foldl_append, val_foldl]; rfl
theorem val_low (n c : Nat) : val (low n c) = n % 2 ^ c := by
  induction c with
  | zero => simp [low, val, Nat.mod_one]
  | succ c ih => rw [low, val_cons, low_length, ih, mod_succ]
theorem low_mod (n c m : Nat) (h : c ≤ m) : low (n % 2 ^ m) c = low n c := by
  induction c with
  | zero => rfl
  | succ c ih => rw [low, low, ih (by omega), Nat.testBit_mod_two_pow]; simp; omega
theorem low_append (n a b : Nat) : low n (a + b) = low (n >>> b) a ++ low n b := by
  induction a with
  | zero => simp [low]
  | succ a ih => rw [show a + 1 + b = (a + b) + 1 by omega, low, ih, low, Nat.testBit_shiftRight, List.cons_append, Nat.add_comm b a]
theorem low_val (l : List Bool) : low (val l) l.length = l := by
  induction l with
  | nil => rfl
  | cons b l ih =>
    rw [List.length_cons, low, val_cons]
    have h1 := val_lt l
    congr 1
    · rw [Nat.mul_comm, Nat.testBit_two_pow_mul_add _ h1]; simp; cases b <;> rfl
    · rw [← low_mod _ _ l.length (Nat.le_refl _), Nat.add_comm, Nat.add_mul_mod_self_right, low_mod _ _ _ (Nat.le_refl _), ih]
theorem val_inj {l m : List Bool} (hl : l.length = m.length) (h : val l = val m) : l = m := by
  rw [← low_val l, ← low_val m, hl, h]
/-- The bits of bytes. -/
def unpack (ys : List Nat) : List Bool := ys.flatMap fun y => low y 8
theorem unpack_length (ys : List Nat) : (unpack ys).length = 8 * ys.length := by
  induction ys with
  | nil => rfl
  | cons y ys ih => simp only [unpack, List.flatMap_cons, List.length_append, low_length, List.length_cons] at ih ⊢; omega
theorem unpack_snoc (ys : List Nat) (y : Nat) : unpack (ys ++ [y]) = unpack ys ++ low y 8 := by simp [unpack]
theorem unpack_append (ys zs : List Nat) : unpack (ys ++ zs) = unpack ys ++ unpack zs := by simp [unpack]
theorem unpack_get (ys : List Nat) {i : Nat} (h : i < 8 * ys.length) : (unpack ys)[i]? = some ((ys.getD (i / 8) 0).testBit (7 - i % 8)) := by
  induction ys generalizing i with
  | nil => simp at h
  | cons y ys ih =>
    simp only [unpack, List.flatMap_cons] at ih ⊢
    by_cases hi : i < 8
    · rw [List.getElem?_append_left (by rw [low_length]; exact hi), low_get _ hi, show i / 8 = 0 by omega, show i % 8 = i by omega]; rfl
    · rw [List.getElem?_append_right (by rw [low_length]; omega), low_length, ih (by simp at h; omega), show i / 8 = (i - 8) / 8 + 1 by omega, show (i - 8) % 8 = i % 8 by omega]; rfl
theorem unpack_inj {ys zs : List Nat} (hy : ∀ y ∈ ys, y < 256) (hz : ∀ y ∈ zs, y < 256) (h : unpack ys = unpack zs) : ys = zs := by
  induction ys generalizing zs with
  | nil =>
    cases zs with
    | nil => rfl
    | cons z zs => have := congrArg List.length h; rw [unpack_length, unpack_length] at this; simp at this
  | cons y ys ih =>
    cases zs with
    | nil => have := congrArg List.length h; rw [unpack_length, unpack_length] at this; simp at this
    | cons z zs =>
      simp only [unpack, List.flatMap_cons] at h
      obtain ⟨h1, h2⟩ := List.append_inj h (by rw [low_length, low_length])
      have e : y = z := by
        have h3 := congrArg val h1
        rw [val_low, val_low] at h3
        have := hy y (List.mem_cons_self ..); have := hz z (List.mem_cons_self ..)
        omega
      rw [e, ih (fun k hk => hy k (List.mem_cons_of_mem _ hk)) (fun k hk => hz k (List.mem_cons_of_mem _ hk)) h2]
/-- Bits, filled up to whole bytes. -/
structure Packs (ys : List Nat) (f : Nat) (bs : List Bool) : Prop where
  bits : unpack ys = bs ++ List.replicate f false
  few : f < 8
  byte : ∀ y ∈ ys, y < 256
theorem Packs.uniq {ys zs : List Nat} {f g : Nat} {bs : List Bool} (h : Packs ys f bs) (k : Packs zs g bs) : ys = zs := by
  have h1 := congrArg List.length h.bits; have h2 := congrArg List.length k.bits
  rw [unpack_length, List.length_append, List.length_replicate] at h1 h2
  have := h.few; have := k.few
  obtain rfl : f = g := by omega
  exact unpack_inj h.byte k.byte (h.bits.trans k.bits.symm)
theorem Packs.len {ys : List Nat} {f : Nat} {bs : List Bool} (h : Packs ys f bs) : 8 * ys.length = bs.length + f := by
  have h1 := congrArg List.length h.bits
  rwa [unpack_length, List.length_append, List.length_replicate] at h1
theorem packs_nil : Packs [] 0 [] := ⟨rfl, by omega, by simp⟩
/-- A bit set in a byte. -/
def setBit (y f : Nat) (b : Bool) : Nat := y ||| b.toNat <<< f
theorem setBit_lt {y f : Nat} {b : Bool} (hy : y < 256) (hf : f < 8) : setBit y f b < 256 := by
  refine Nat.or_lt_two_pow (n := 8) hy ?_
  rw [Nat.shiftLeft_eq]
  have : b.toNat ≤ 1 := b.toNat_le
  have h2 : 2 ^ f ≤ 2 ^ 7 := Nat.pow_le_pow_right (by decide) (by omega)
  calc b.toNat * 2 ^ f ≤ 1 * 2 ^ 7 := Nat.mul_le_mul this h2
    _ < 2 ^ 8 := by decide
theorem setBit_low {y f : Nat} {b : Bool} {p : List Bool} (hf : f < 8) (h : low y 8 = p ++ List.replicate (f + 1) false) : low (setBit y f b) 8 = p ++ [b] ++ List.replicate f false := by
  have hp : p.length = 7 - f := by have := congrArg List.length h; rw [low_length, List.length_append, List.length_replicate] at this; omega
  apply List.ext_getElem?
  intro i
  by_cases hi : i < 8
  · rw [low_get _ hi, setBit, Nat.testBit_or, Nat.testBit_shiftLeft]
    have h1 : (low y 8)[i]? = _ := low_get y hi
    rw [h] at h1
    by_cases h2 : i < 7 - f
    · rw [List.append_assoc, List.getElem?_append_left (by omega)]
      rw [List.getElem?_append_left (by omega)] at h1
      rw [h1]
      have h3 : b.toNat.testBit (8 - 1 - i - f) = false := by rw [Nat.testBit_bool_toNat]; simp; omega
      rw [h3]; simp
    · rw [List.getElem?_append_right (by omega), List.getElem?_replicate, if_pos (by omega)] at h1
      have h4 : y.testBit (8 - 1 - i) = false := by simpa using h1.symm
      rw [h4]
      by_cases h5 : i = 7 - f
      · rw [List.append_assoc, List.getElem?_append_right (by omega), show i - p.length = 0 by omega]
        simp only [List.cons_append, List.getElem?_cons_zero]
        rw [show 8 - 1 - i - f = 0 by omega, Nat.testBit_bool_toNat]
        simp; omega
      · rw [List.getElem?_append_right (by simp; omega), List.getElem?_replicate, if_pos (by simp; omega)]
        simp; omega
  · rw [List.getElem?_eq_none (by rw [low_length]; omega), List.getElem?_eq_none (by simp; omega)]
theorem Packs.fresh {ys : List Nat} {bs : List Bool} (h : Packs ys 0 bs) : unpack (ys ++ [0]) = bs ++ List.replicate 8 false ∧ ∀ y ∈ ys ++ [0], y < 256 := by
  refine ⟨?_, fun y hy => ?_⟩
  · rw [unpack_snoc, h.bits]; simp [low]
  · rcases List.mem_append.1 hy with hy | hy
    · exact h.byte y hy
    · simp at hy; omega
theorem packs_set {ys : List Nat} {f : Nat} {bs : List Bool} {b : Bool} (hu : unpack ys = bs ++ List.replicate (f + 1) false) (hf : f < 8) (hy : ∀ y ∈ ys, y < 256) (h0 : 0 < ys.length) : Packs (ys.set (ys.length - 1) (setBit (ys.getD (ys.length - 1) 0) f b)) f (bs ++ [b]) := by
  obtain ⟨zs, z, rfl⟩ : ∃ zs z, ys = zs ++ [z] := ⟨ys.dropLast, ys.getLast (by intro e; simp [e] at h0), (List.dropLast_concat_getLast _).symm⟩
  have e1 : (zs ++ [z]).getD ((zs ++ [z]).length - 1) 0 = z := by simp
  have e2 : ∀ u, (zs ++ [z]).set ((zs ++ [z]).length - 1) u = zs ++ [u] := by intro u; simp
  rw [e1, e2]
  have hz : z < 256 := hy z (by simp)
  rw [unpack_snoc] at hu
  have hl := congrArg List.length hu
  rw [List.length_append, low_length, unpack_length, List.length_append, List.length_replicate] at hl
  have h3 : unpack zs ++ low z 8 = bs.take (8 * zs.length) ++ (bs.drop (8 * zs.length) ++ List.replicate (f + 1) false) := by rw [hu, ← List.append_assoc, List.take_append_drop]
  obtain ⟨h4, h5⟩ := List.append_inj h3 (by rw [unpack_length, List.length_take]; omega)
  refine ⟨?_, hf, fun y hy' => ?_⟩
  · rw [unpack_snoc, setBit_low hf h5, h4]
    rw [← List.append_assoc, ← List.append_assoc, List.take_append_drop]
  · rcases List.mem_append.1 hy' with hy' | hy'
    · exact hy y (by simp [hy'])
    · simp at hy'; rw [hy']; exact setBit_lt hz hf
end Go.Proofs.Ytkmiogaklmgnkaa
