/- Layer 3 (bits): the document's own answers: Of, Bytes. -/
import Derived.Test.YtkmiogaklmgnkaaBtR
import Derived.Test.YtkmiogaklmgnkaaBtJ
namespace Go.Proofs.Ytkmiogaklmgnkaa
open Go.RowKit Go.Shelf
set_option linter.unusedVariables false

theorem getD_lt {ys : List Nat} (h : ∀ y ∈ ys, y < 256) (k : Nat) : ys.getD k 0 < 256 := by
  rcases Nat.lt_or_ge k ys.length with hk | hk
  · rw [List.getD_eq_getElem?_getD, List.getElem?_eq_getElem hk]; exact h _ (List.getElem_mem _)
  · rw [List.getD_eq_getElem?_getD, List.getElem?_eq_none hk]; decide
theorem take_one (ys : List Nat) {k : Nat} (h : k < ys.length) : ys.take (k + 1) = ys.take k ++ [ys.getD k 0] := by
  rw [List.take_succ_eq_append_getElem h]; congr 2; simp [h]
theorem str_get {ys : List Nat} (h : ∀ y ∈ ys, y < 256) {k : Nat} (hk : k < (str ys).size) : ((str ys)[k]'hk).toNat = ys.getD k 0 := by
  have hk2 : k < ys.length := by rwa [str_size] at hk
  have hb := getD_lt h k
  have : ((str ys)[k]'hk) = UInt8.ofNat (ys.getD k 0) := by
    show (str ys).data[k] = _
    simp [str, strOfNums, hk2]
  rw [this, UInt8.toNat_ofNat', Nat.mod_eq_of_lt (by omega)]
theorem str_append (ys zs : List Nat) : str ys ++ str zs = str (ys ++ zs) := by
  apply ByteArray.ext; simp [str, strOfNums]
set_option maxRecDepth 100000 in
set_option maxHeartbeats 2000000 in
theorem refOf (ys : List Nat) (w : World) (hy : ∀ y ∈ ys, y < 256) (hl : ys.length ≤ 100000) :
    Calls Try.prog 35 #[.string (str ys)] w fun e w' => e = .returned (.string (txt (unpack ys))) ∧ Below w.heap.size w w' := by
  have hsz := str_size ys
  have hget := fun k hk => str_get hy (k := k) hk
  obtain ⟨s, hs⟩ : ∃ s, str ys = s := ⟨_, rfl⟩
  rw [hs] at hsz hget ⊢
  have HG := hid hget
  have hs1 : s.size ≤ 100000 := by omega
  have HZ := hid hsz
  clear hs hget hsz
  go_enter Try.func35, Try.ntmps35
  go_wp2_with fail
  go_loopw [3, 4] (fun t i wr => ∃ k : Nat, k ≤ s.size ∧ i = .int .i64 k ∧ t = .string (txt (unpack (ys.take k))) ∧ Below w.heap.size w wr) (fun _ i _ => s.size - (intOf i).toNat)
  case atStart => exact ⟨0, Nat.zero_le _, rfl, rfl, Below.refl _ _⟩
  case round =>
    obtain ⟨k, hk, rfl, rfl, hB⟩ := hrel
    by_cases hlt : k < s.size
    · have hkl : k < ys.length := by have := HZ.out; omega
      have g1 := HG.out k hlt
      have hb := getD_lt hy k
      have htx := refText (ys.getD k 0) 8 wr (by omega)
      have hta := txt_append (unpack (ys.take k)) (low (ys.getD k 0) 8)
      rw [← unpack_snoc, ← take_one ys hkl] at hta
      have z1 : ¬ 9223372036854775807 < (txt (unpack (ys.take k))).size + (txt (low (ys.getD k 0) 8)).size := by
        rw [txt_size, txt_size, low_length, unpack_length, List.length_take]; omega
      rw [show cnt 8 = 8 from rfl] at htx
      obtain ⟨y, hye⟩ : ∃ y, ys.getD k 0 = y := ⟨_, rfl⟩
      rw [hye] at g1 htx hta z1 hb
      have HTA := hid hta
      have q1 := wrap_u64 (n := y) (by omega)
      clear hta hye
      go_wp2_with fail
      refine htx.mono ?_
      rintro e w2 ⟨rfl, b2⟩
      have hB2 := hB.trans (b2.mono hB.size)
      clear htx
      go_wp2_with fail
      go_roundw
      case rel => exact ⟨k + 1, by omega, by go_num, by rw [HTA.out], hB2⟩
      case measure => simp [intOf]; omega
    · obtain rfl : k = s.size := by omega
      have hta : ys.take s.size = ys := List.take_of_length_le (by have := HZ.out; omega)
      rw [hta]
      go_wp2_with fail
      go_ret
      exact ⟨rfl, hB⟩
/-- Eight bits at a time. -/
def chunk (l : List Bool) (m : Nat) : List Nat := (List.range m).map fun k => val ((l.drop (8 * k)).take 8)
theorem chunk_length (l : List Bool) (m : Nat) : (chunk l m).length = m := by simp [chunk]
theorem chunk_succ (l : List Bool) (m : Nat) : chunk l (m + 1) = chunk l m ++ [val ((l.drop (8 * m)).take 8)] := by simp [chunk, List.range_succ]
theorem chunk_lt (l : List Bool) (m : Nat) : ∀ y ∈ chunk l m, y < 256 := by
  intro y hy
  obtain ⟨k, _, rfl⟩ := List.mem_map.1 hy
  have h1 := val_lt ((l.drop (8 * k)).take 8)
  have h2 : 2 ^ ((l.drop (8 * k)).take 8).length ≤ 2 ^ 8 := Nat.pow_le_pow_right (by decide) (by rw [List.length_take]; omega)
  omega
theorem chunk_unpack (l : List Bool) (m : Nat) (h : 8 * m ≤ l.length) : unpack (chunk l m) = l.take (8 * m) := by
  induction m with
  | zero => simp [chunk, unpack]
  | succ m ih =>
    have hl : ((l.drop (8 * m)).take 8).length = 8 := by rw [List.length_take, List.length_drop]; omega
    rw [chunk_succ, unpack_snoc, ih (by omega)]
    have := low_val ((l.drop (8 * m)).take 8)
    rw [hl] at this
    rw [this, show 8 * (m + 1) = 8 * m + 8 by omega, List.take_add]
theorem txt_extract (l : List Bool) (i j : Nat) : (txt l).extract i j = txt ((l.drop i).take (j - i)) := by
  apply ByteArray.ext
  simp [txt]
theorem txt_zero : txt [false] = ⟨#[48]⟩ := rfl
end Go.Proofs.Ytkmiogaklmgnkaa
