/- Layer 3 (bits): the document's own answers: Number, Signed, Rest. -/
import Derived.Test.YtkmiogaklmgnkaaBtT
namespace Go.Proofs.Ytkmiogaklmgnkaa
open Go.RowKit Go.Shelf
set_option linter.unusedVariables false

theorem txt_get (l : List Bool) {k : Nat} {b : Bool} (h : l[k]? = some b) (hk : k < (txt l).size) : ((txt l)[k]'hk).toNat = 48 + b.toNat := by
  have : ((txt l)[k]'hk) = (if b then (49 : UInt8) else 48) := by
    obtain ⟨hk2, hb⟩ := List.getElem?_eq_some_iff.1 h
    show (txt l).data[k] = _
    simp [txt, hb]
  rw [this]
  cases b <;> rfl
theorem take_bit (l : List Bool) {k : Nat} {b : Bool} (h : l[k]? = some b) : l.take (k + 1) = l.take k ++ [b] := by rw [List.take_add_one, h]; rfl
set_option maxRecDepth 100000 in
set_option maxHeartbeats 2000000 in
theorem refNumber (l : List Bool) (w : World) (hl : l.length ≤ 64) :
    Calls Try.prog 61 #[.string (txt l)] w fun e w' => e = .returned (.int .u64 (val l : Nat)) ∧ w' = w := by
  have hsz := txt_size l
  have hget := fun k b => txt_get l (k := k) (b := b)
  obtain ⟨s, hs⟩ : ∃ s, txt l = s := ⟨_, rfl⟩
  rw [hs] at hsz hget ⊢
  have HG := hid hget
  have hs1 : s.size ≤ 64 := by omega
  have HZ := hid hsz
  clear hs hget hsz
  go_enter Try.func61, Try.ntmps61
  go_wp2_with fail
  go_loop [3, 4] (fun n i => ∃ k : Nat, k ≤ s.size ∧ i = .int .i64 k ∧ n = .int .u64 (val (l.take k) : Nat)) (fun _ i => s.size - (intOf i).toNat)
  case atStart => exact ⟨0, Nat.zero_le _, rfl, rfl⟩
  case round =>
    obtain ⟨k, hk, rfl, rfl⟩ := hrel
    by_cases hlt : k < s.size
    · have hkl : k < l.length := by have := HZ.out; omega
      obtain ⟨b, hb⟩ : ∃ b, l[k]? = some b := ⟨_, List.getElem?_eq_getElem hkl⟩
      have g1 := HG.out k b hb hlt
      have hv := val_lt (l.take k)
      rw [List.length_take] at hv
      have hv2 : 2 ^ (min k l.length) ≤ 2 ^ 63 := Nat.pow_le_pow_right (by decide) (by omega)
      have hsn : val (l.take (k + 1)) = 2 * val (l.take k) + b.toNat := by rw [take_bit l hb, val_snoc]
      obtain ⟨m, hm⟩ : ∃ m, val (l.take k) = m := ⟨_, rfl⟩
      rw [hm] at hv hsn ⊢
      have hm63 : m < 2 ^ 63 := by omega
      have HS := hid hsn
      have hb1 := b.toNat_le
      obtain ⟨y, hy⟩ : ∃ y, b.toNat = y := ⟨_, rfl⟩
      rw [hy] at g1 hb1 HS
      have q1 := wrap_u64 (n := y) (by omega)
      have q2 := wrap_u8 (n := y) (by omega)
      clear hv hv2 hsn hm hy
      go_wp2_with fail
      go_round
      case rel => exact ⟨k + 1, by omega, by go_num, by rw [HS.out]; congr 1; omega⟩
      case measure => simp [intOf]; omega
    · obtain rfl : k = s.size := by omega
      rw [List.take_of_length_le (by have := HZ.out; omega)]
      go_wp2_with fail
      go_ret
      exact ⟨rfl, rfl⟩
theorem sgn_false {l : List Bool} (h : l.head? ≠ some true) : sgn l = val l := by unfold sgn; rw [if_neg h]; simp
theorem sgn_true {l : List Bool} (h : l.head? = some true) : sgn l = (val l : Int) - 2 ^ l.length := by unfold sgn; rw [if_pos h]
theorem val_head_false {l : List Bool} (h : l.head? = some false) : val l < 2 ^ (l.length - 1) := by
  cases l with
  | nil => simp at h
  | cons b l => simp at h; subst h; rw [val_cons]; have := val_lt l; simp; omega
theorem val_head_true {l : List Bool} (h : l.head? = some true) : 2 ^ (l.length - 1) ≤ val l := by
  cases l with
  | nil => simp at h
  | cons b l => simp at h; subst h; rw [val_cons]; simp
theorem signed_math {l : List Bool} (h : l.head? = some true) (hl : l.length < 64) : wrap64 (wrap64 (val l : Int) - wrap64 (2 ^ l.length)) = sgn l := by
  have h1 := val_head_true h
  have h2 := val_lt l
  rw [sgn_true h]
  have e2 : ((2 : Int) ^ l.length) = ((2 ^ l.length : Nat) : Int) := by rw [Int.natCast_pow]; rfl
  have h3 : 2 ^ l.length ≤ 2 ^ 63 := Nat.pow_le_pow_right (by decide) (by omega)
  rw [e2]
  generalize 2 ^ l.length = P at *
  unfold wrap64
  omega
theorem signed_math64 {l : List Bool} (h : l.head? = some true) (hl : l.length = 64) : wrap64 (val l : Int) = sgn l := by
  have h1 := val_head_true h
  have h2 := val_lt l
  rw [sgn_true h]
  rw [hl] at h1 h2 ⊢
  have h1 : 2 ^ 63 ≤ val l := h1
  unfold wrap64
  omega
theorem signed_math0 {l : List Bool} (h : l.head? = some false) (hl : l.length ≤ 64) : wrap64 (val l : Int) = sgn l := by
  have h1 := val_head_false h
  have h3 : 2 ^ (l.length - 1) ≤ 2 ^ 63 := Nat.pow_le_pow_right (by decide) (by omega)
  rw [sgn_false (by rw [h]; simp)]
  unfold wrap64
  omega
theorem str_ne_nil {s : ByteArray} (h : 0 < s.size) : ¬ s.toList = [] ∧ s.toList.isEmpty = false := by
  have h1 : ¬ s.toList = [] := by
    rw [ByteArray.toList_eq]
    intro e
    have : s.data.toList.length = s.size := by simp
    rw [e] at this; simp at this; omega
  exact ⟨h1, by simpa using h1⟩
set_option maxRecDepth 100000 in
set_option maxHeartbeats 2000000 in
theorem refSigned (l : List Bool) (w : World) (hl : l.length ≤ 64) :
    Calls Try.prog 74 #[.string (txt l)] w fun e w' => e = .returned (.int .i64 (sgn l)) ∧ w' = w := by
  have hn := refNumber l w hl
  cases hh : l.head? with
  | none =>
    have hl0 : l = [] := by simpa using hh
    subst hl0
    rw [show txt [] = ⟨#[]⟩ from rfl, show val [] = 0 from rfl] at hn
    rw [show txt [] = ⟨#[]⟩ from rfl, show sgn [] = 0 from rfl]
    go_enter Try.func74, Try.ntmps74
    go_wp2_with (go_at_call 61; refine hn.mono ?_; rintro e w' ⟨rfl, rfl⟩)
    go_ret
    exact ⟨rfl, rfl⟩
  | some b =>
    have h0 : 0 < l.length := by cases l with | nil => simp at hh | cons => simp
    have hsz := txt_size l
    have hget := txt_get l (k := 0) (b := b) (by rw [← List.head?_eq_getElem?]; exact hh)
    have hm0 := fun h : l.head? = some false => signed_math0 h hl
    have hm1 := fun h : l.head? = some true => signed_math h
    have hm2 := fun h : l.head? = some true => signed_math64 h
    obtain ⟨s, hs⟩ : ∃ s, txt l = s := ⟨_, rfl⟩
    obtain ⟨q, hq⟩ : ∃ q, sgn l = q := ⟨_, rfl⟩
    obtain ⟨m, hm⟩ : ∃ m, val l = m := ⟨_, rfl⟩
    obtain ⟨len, hlen⟩ : ∃ len, l.length = len := ⟨_, rfl⟩
    rw [hs] at hn hsz hget ⊢
    rw [hm] at hn hm0 hm1 hm2
    rw [hq] at hm0 hm1 hm2 ⊢
    rw [hlen] at hsz hm1 hm2 hl h0
    have hsp : 0 < s.size := by omega
    have g0 := hget hsp
    obtain ⟨hne, hie⟩ := str_ne_nil hsp
    cases b with
    | false =>
      have k1 := hm0 hh
      clear hs hq hm hlen hh hm0 hm1 hm2 hget
      have g1 : (s[0].toNat : Int) = 48 := by rw [g0]; rfl
      clear g0
      go_enter Try.func74, Try.ntmps74
      go_wp2_with (go_at_call 61; refine hn.mono ?_; rintro e w' ⟨rfl, rfl⟩)
      go_ret
      exact ⟨ret_int k1, rfl⟩
    | true =>
      have g1 : (s[0].toNat : Int) = 49 := by rw [g0]; rfl
      by_cases h64 : len < 64
      · have k1 := hm1 hh h64
        have h64' : (s.size : Int) < 64 := by omega
        rw [← hsz] at k1 hl
        clear hs hq hm hlen hh hm0 hm1 hm2 hget g0 hsz h64 h0
        go_enter Try.func74, Try.ntmps74
        go_wp2_with (go_at_call 61; refine hn.mono ?_; rintro e w' ⟨rfl, rfl⟩)
        go_ret
        exact ⟨ret_int k1, rfl⟩
      · have k1 := hm2 hh (by omega)
        have h64' : ¬ (s.size : Int) < 64 := by omega
        clear hs hq hm hlen hh hm0 hm1 hm2 hget g0 hsz h64 h0
        go_enter Try.func74, Try.ntmps74
        go_wp2_with (go_at_call 61; refine hn.mono ?_; rintro e w' ⟨rfl, rfl⟩)
        go_ret
        exact ⟨ret_int k1, rfl⟩
set_option maxRecDepth 100000 in
set_option maxHeartbeats 2000000 in
theorem refRest (l : List Bool) (w : World) (hl : l.length ≤ 100000) :
    Calls Try.prog 39 #[.string (txt l)] w fun e w' => e = .returned (.bool (restB l)) ∧ w' = w := by
  have hsz := txt_size l
  have hget := fun k b => txt_get l (k := k) (b := b)
  obtain ⟨s, hs⟩ : ∃ s, txt l = s := ⟨_, rfl⟩
  rw [hs] at hsz hget ⊢
  have HG := hid hget
  have hs1 : s.size ≤ 100000 := by omega
  have HZ := hid hsz
  clear hs hget hsz
  go_enter Try.func39, Try.ntmps39
  go_wp2_with fail
  go_loop [3] (fun i => ∃ k : Nat, k ≤ s.size ∧ i = .int .i64 k ∧ (l.take k).all (fun b => !b) = true) (fun i => s.size - (intOf i).toNat)
  case atStart => exact ⟨0, Nat.zero_le _, rfl, rfl⟩
  case round =>
    obtain ⟨k, hk, rfl, hal⟩ := hrel
    have HAL := hid hal
    clear hal
    by_cases hlt : k < s.size
    · have hkl : k < l.length := by have := HZ.out; omega
      obtain ⟨b, hb⟩ : ∃ b, l[k]? = some b := ⟨_, List.getElem?_eq_getElem hkl⟩
      have g1 := HG.out k b hb hlt
      have hsn := take_bit l hb
      have HS := hid hsn
      have HB := hid hb
      clear hsn hb
      cases b with
      | false =>
        have g2 : (s[k].toNat : Int) = 48 := by rw [g1]; rfl
        clear g1
        go_wp2_with fail
        go_round
        case rel => exact ⟨k + 1, by omega, by go_num, by rw [HS.out, List.all_append, HAL.out]; rfl⟩
        case measure => simp [intOf]; omega
      | true =>
        have g2 : (s[k].toNat : Int) = 49 := by rw [g1]; rfl
        have hrb : restB l = false := by
          unfold restB
          rw [Bool.and_eq_false_iff]
          right
          rw [← List.take_append_drop (k + 1) l, HS.out, List.all_append, List.all_append]
          simp
        have HRB := hid hrb
        clear g1 hrb
        go_wp2_with fail
        go_ret
        exact ⟨ret_bool HRB.out.symm, rfl⟩
    · obtain rfl : k = s.size := by omega
      have hall := HAL.out
      rw [List.take_of_length_le (by have := HZ.out; omega)] at hall
      have hrb : restB l = decide ((s.size : Int) < 8) := by
        unfold restB
        rw [hall, Bool.and_true, HZ.out]
        congr 1
        exact propext (by omega)
      have HRB := hid hrb
      clear hall hrb
      go_wp2_with fail
      go_ret
      exact ⟨ret_bool HRB.out.symm, rfl⟩
end Go.Proofs.Ytkmiogaklmgnkaa
