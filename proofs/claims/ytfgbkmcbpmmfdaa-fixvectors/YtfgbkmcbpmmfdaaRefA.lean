/- Layer 1's own answers (embrasureref01): rows of digits to base 2^16: what is read of them: at, cut, more. -/
import Derived.Test.YtfgbkmcbpmmfdaaRows
import Derived.Test.YtfgbkmcbpmmfdaaPlain
import Derived.WalkKit
import Derived.WalkSpells
import Derived.WalkLawsBesides
import Derived.LoopTactic
import Derived.BigQuiet
import Derived.Deep.QuietTactic
namespace Go.Proofs.Ytfgbkmcbpmmfdaa
open Go.RowKit
set_option linter.unusedVariables false

/-- The value of a row of digits, the lowest first. -/
def val : List Nat → Nat
  | [] => 0
  | d :: r => d + 65536 * val r
/-- A slice that holds these digits. -/
structure Row (w : World) (a : Option Addr) (cap : Nat) (ds : List Nat) : Prop where
  le : ds.length ≤ cap
  most : cap ≤ maxLen
  digits : ∀ d ∈ ds, d < 65536
  cells : ds = [] ∨ ∃ b o, a = some ⟨b, o, none⟩ ∧ b < w.heap.size ∧ ∀ i, i < ds.length → w.cell? ⟨b, o + i, none⟩ = some (.int .u64 ((ds.getD i 0 : Nat) : Int))
theorem Row.keep {W w1 : World} {a : Option Addr} {cap : Nat} {ds : List Nat} (h : Row W a cap ds) (hb : Below W.heap.size W w1) : Row w1 a cap ds := by
  refine ⟨h.le, h.most, h.digits, ?_⟩
  rcases h.cells with h | ⟨b, o, rfl, hlt, hc⟩
  · exact .inl h
  · exact .inr ⟨b, o, rfl, Nat.lt_of_lt_of_le hlt hb.size, fun i hi => (hb.cell (p := ⟨b, o + i, none⟩) hlt).trans (hc i hi)⟩
theorem Row.at {w : World} {a : Option Addr} {cap : Nat} {ds : List Nat} (h : Row w a cap ds) {i : Nat} (hi : i < ds.length) : ∃ b o, a = some ⟨b, o, none⟩ ∧ b < w.heap.size ∧ w.cell? ⟨b, o + i, none⟩ = some (.int .u64 ((ds.getD i 0 : Nat) : Int)) := by
  rcases h.cells with rfl | ⟨b, o, rfl, hlt, hc⟩
  · simp at hi
  · exact ⟨b, o, rfl, hlt, hc i hi⟩

theorem refAt (a : Option Addr) (cap : Nat) (ds : List Nat) (i : Nat) (w : World) (h : Row w a cap ds) (hi : i ≤ 4611686018427387904) :
    Calls Try.prog 74 #[.slice a ds.length cap, .int .i64 i] w fun e w' => e = .returned (.int .u64 ((ds.getD i 0 : Nat) : Int)) ∧ w' = w := by
  have hle := h.le; have hmost := h.most
  unfold maxLen at hmost
  by_cases hlt : i < ds.length
  · obtain ⟨b, o, rfl, _, hc⟩ := h.at hlt
    generalize hd : ds.getD i 0 = d at *
    clear hd
    have hli : (i : Int) < (ds.length : Int) := by omega
    go_enter Try.func74, Try.ntmps74
    go_wp2
    go_ret
    exact ⟨rfl, rfl⟩
  · have hd : ds.getD i 0 = 0 := by rw [List.getD_eq_getElem?_getD, List.getElem?_eq_none (by omega)]; rfl
    rw [hd]
    have hli : ¬ (i : Int) < (ds.length : Int) := by omega
    clear hd
    go_enter Try.func74, Try.ntmps74
    go_wp2
    go_ret
    exact ⟨rfl, rfl⟩

/-- The same, the digit under a name. -/
theorem refAtN (a : Option Addr) (cap : Nat) (ds : List Nat) (i x : Nat) (w : World) (h : Row w a cap ds) (hi : i ≤ 4611686018427387904) (hx : Hid (ds.getD i 0 = x)) :
    Calls Try.prog 74 #[.slice a ds.length cap, .int .i64 i] w fun e w' => e = .returned (.int .u64 (x : Int)) ∧ w' = w := by
  have := refAt a cap ds i w h hi; rw [hx.out] at this; exact this

/-- Without noughts at the end. -/
def Trim (ds : List Nat) : Prop := ds = [] ∨ ∃ r d, ds = r ++ [d] ∧ d ≠ 0
theorem take_snoc' {ds : List Nat} {n : Nat} (h : n < ds.length) : ds.take (n + 1) = ds.take n ++ [ds.getD n 0] := by
  rw [List.take_succ_eq_append_getElem h, List.getD_eq_getElem?_getD, List.getElem?_eq_getElem h]; rfl
theorem val_append (a b : List Nat) : val (a ++ b) = val a + 65536 ^ a.length * val b := by
  induction a with
  | nil => simp [val]
  | cons d r ih => simp only [List.cons_append, val, ih, List.length_cons, Nat.pow_succ]; rw [Nat.mul_add, ← Nat.mul_assoc, Nat.mul_comm 65536 (65536 ^ r.length)]; omega
theorem val_snoc0 (a : List Nat) : val (a ++ [0]) = val a := by rw [val_append]; simp [val]

set_option maxHeartbeats 1000000 in
theorem refCut (a : Option Addr) (cap : Nat) (ds : List Nat) (w : World) (h : Row w a cap ds) :
    Calls Try.prog 71 #[.slice a ds.length cap] w fun e w' => (∃ n, n ≤ ds.length ∧ e = .returned (.slice a n cap) ∧ val (ds.take n) = val ds ∧ Trim (ds.take n)) ∧ w' = w := by
  have hle := h.le; have hmost := h.most
  unfold maxLen at hmost
  go_enter Try.func71, Try.ntmps71
  go_wp2
  go_loop [3] (fun t => ∃ n : Nat, n ≤ ds.length ∧ t = .int .i64 n ∧ val (ds.take n) = val ds) (fun t => (intOf t).toNat)
  case atStart => exact ⟨ds.length, Nat.le_refl _, rfl, by rw [List.take_length]⟩
  case round =>
    obtain ⟨n, hn, rfl, hv⟩ := hrel
    have HV : Hid _ := hv
    clear hv
    by_cases h0 : n = 0
    · subst h0
      go_wp2
      go_ret
      exact ⟨⟨0, Nat.zero_le _, rfl, HV.out, .inl rfl⟩, rfl⟩
    · obtain ⟨m, rfl⟩ : ∃ m, n = m + 1 := ⟨n - 1, by omega⟩
      obtain ⟨b, o, rfl, _, hc⟩ := h.at (i := m) (by omega)
      have ht := take_snoc' (ds := ds) (n := m) (by omega)
      generalize hd : ds.getD m 0 = d at *
      by_cases hz : d = 0
      · subst hz
        have hv : val (ds.take m) = val ds := by have := HV.out; rw [ht, val_snoc0] at this; exact this
        have HV2 : Hid _ := hv
        clear hv ht hd
        go_wp2
        exact ⟨⟨m, by omega, rfl, HV2.out⟩, by simp [intOf]⟩
      · have hz' : ((d : Int) == 0) = false := beq_eq_false_iff_ne.2 (by omega)
        have hT : Trim (ds.take (m + 1)) := .inr ⟨_, d, ht, hz⟩
        have HT : Hid _ := hT
        clear hT ht hd
        go_wp2
        go_ret
        exact ⟨⟨m + 1, by omega, rfl, HV.out, HT.out⟩, rfl⟩

/-- One is greater: the longer one, or by the highest digit that is unlike. -/
theorem val_lt (ds : List Nat) (h : ∀ d ∈ ds, d < 65536) : val ds < 65536 ^ ds.length := by
  induction ds with
  | nil => simp [val]
  | cons d r ih =>
    have h1 := ih fun x hx => h x (List.mem_cons_of_mem _ hx)
    have h2 := h d List.mem_cons_self
    simp only [val, List.length_cons, Nat.pow_succ]; omega
theorem pow_pos' (n : Nat) : 0 < 65536 ^ n := Nat.pow_pos (by decide)
theorem drop_cons {ds : List Nat} {k : Nat} (h : k < ds.length) : ds.drop k = ds.getD k 0 :: ds.drop (k + 1) := by
  rw [List.drop_eq_getElem_cons h, List.getD_eq_getElem?_getD, List.getElem?_eq_getElem h]; rfl
theorem val_split (ds : List Nat) (k : Nat) : val ds = val (ds.take k) + 65536 ^ (ds.take k).length * val (ds.drop k) := by
  have := val_append (ds.take k) (ds.drop k); rw [List.take_append_drop] at this; exact this
theorem digits_take {ds : List Nat} (h : ∀ d ∈ ds, d < 65536) (k : Nat) : ∀ d ∈ ds.take k, d < 65536 := fun d hd => h d (List.mem_of_mem_take hd)
/-- The highest digit that is unlike tells. -/
theorem cmp_digit {xs ys : List Nat} {k : Nat} (hl : xs.length = ys.length) (hk : k < xs.length) (ha : ∀ d ∈ xs, d < 65536) (hb : ∀ d ∈ ys, d < 65536) (hd : xs.drop (k + 1) = ys.drop (k + 1)) (hne : xs.getD k 0 ≠ ys.getD k 0) :
    decide (val ys < val xs) = decide (ys.getD k 0 < xs.getD k 0) := by
  have l1 : (xs.take k).length = k := by rw [List.length_take]; omega
  have l2 : (ys.take k).length = k := by rw [List.length_take]; omega
  have v1 := val_split xs k
  have v2 := val_split ys k
  have u1 := val_lt (xs.take k) (digits_take ha k)
  have u2 := val_lt (ys.take k) (digits_take hb k)
  rw [drop_cons hk, val] at v1
  rw [drop_cons (by omega), val, ← hd] at v2
  rw [l1] at v1 u1
  rw [l2] at v2 u2
  generalize xs.getD k 0 = x at *
  generalize ys.getD k 0 = y at *
  generalize val (xs.take k) = p at *
  generalize val (ys.take k) = q at *
  generalize val (xs.drop (k + 1)) = r at *
  rw [Nat.mul_add] at v1 v2
  generalize 65536 ^ k * (65536 * r) = t at *
  generalize hP : 65536 ^ k = P at *
  have key : ∀ x y p q : Nat, p < P → y < x → q < P → q + (P * y + t) < p + (P * x + t) := by
    intro x y p q h1 h2 h3
    have : P * (y + 1) ≤ P * x := Nat.mul_le_mul_left _ h2
    rw [Nat.mul_add, Nat.mul_one] at this; omega
  rcases Nat.lt_or_gt_of_ne hne with h | h
  · have := key y x q p u2 h u1
    rw [decide_eq_false (by omega), decide_eq_false (by omega)]
  · have := key x y p q u1 h u2
    rw [decide_eq_true (by omega), decide_eq_true h]
theorem trim_ge {ds : List Nat} (h : Trim ds) (hn : ds ≠ []) : 65536 ^ (ds.length - 1) ≤ val ds := by
  rcases h with h | ⟨r, d, rfl, hd⟩
  · exact absurd h hn
  · rw [val_append]
    simp only [val, List.length_append, List.length_cons, List.length_nil, Nat.zero_add, Nat.add_sub_cancel, Nat.mul_zero, Nat.add_zero]
    have : 65536 ^ r.length * 1 ≤ 65536 ^ r.length * d := Nat.mul_le_mul_left _ (by omega)
    omega
theorem cmp_len {xs ys : List Nat} (hb : ∀ d ∈ ys, d < 65536) (ta : Trim xs) (h : ys.length < xs.length) : val ys < val xs := by
  have h1 := val_lt ys hb
  have h2 := trim_ge ta (by intro e; rw [e] at h; simp at h)
  have h3 : 65536 ^ ys.length ≤ 65536 ^ (xs.length - 1) := Nat.pow_le_pow_right (by decide) (by omega)
  omega

theorem bdrewN (w : World) (n : Nat) : Below w.heap.size w (w.drewN n) := below_drewN (Below.refl _ _) n
set_option maxHeartbeats 2000000 in
theorem refMore (a b : Option Addr) (ca cb : Nat) (xs ys : List Nat) (w : World) (h : Row w a ca xs) (k : Row w b cb ys) (ta : Trim xs) (tb : Trim ys) :
    Calls Try.prog 66 #[.slice a xs.length ca, .slice b ys.length cb] w fun e w' => e = .returned (.bool (decide (val ys < val xs))) ∧ Below w.heap.size w w' := by
  have hle := h.le; have hmost := h.most; have kle := k.le; have kmost := k.most
  unfold maxLen at hmost kmost
  by_cases hl : xs.length = ys.length
  · have hl' : ((xs.length : Int) != (ys.length : Int)) = false := by rw [bne_eq_false_iff_eq]; omega
    have HL : Hid (xs.length = ys.length) := hl
    clear hl
    go_enter Try.func66, Try.ntmps66
    go_wp2
    go_loopw [5] (fun t W => ∃ n : Nat, n ≤ xs.length ∧ t = .int .i64 ((n : Int) - 1) ∧ xs.drop n = ys.drop n ∧ Below w.heap.size w W ∧ Row W a ca xs ∧ Row W b cb ys) (fun t _ => (intOf t + 1).toNat)
    case atStart => exact ⟨xs.length, Nat.le_refl _, rfl, by rw [List.drop_length, HL.out, List.drop_length], Below.refl _ _, h, k⟩
    case round =>
      obtain ⟨n, hn, rfl, hd, hB, hr, kr⟩ := hrel
      by_cases h0 : n = 0
      · subst h0
        have hab : xs = ys := hd
        go_wp2
        go_ret
        exact ⟨ret_bool (by rw [hab, decide_eq_false (Nat.lt_irrefl _)]), hB⟩
      · obtain ⟨m, rfl⟩ : ∃ m, n = m + 1 := ⟨n - 1, by omega⟩
        have hl := HL.out
        obtain ⟨b1, o1, rfl, lt1, hc1⟩ := hr.at (i := m) (by omega)
        obtain ⟨b2, o2, rfl, lt2, hc2⟩ := kr.at (i := m) (by omega)
        have hx := cmp_digit hl (by omega) h.digits k.digits hd
        have c1 := drop_cons (ds := xs) (k := m) (by omega)
        have c2 := drop_cons (ds := ys) (k := m) (by omega)
        rw [hd] at c1
        generalize e1 : xs.getD m 0 = x at *
        generalize e2 : ys.getD m 0 = y at *
        have m0 : (0 : Int) ≤ (m : Int) := by omega
        have m1 : (m : Int) < (xs.length : Int) := by omega
        have m2 : (m : Int) < (ys.length : Int) := by omega
        by_cases hxy : x = y
        · have hdm : xs.drop m = ys.drop m := by rw [c1, c2, hxy]
          have HDM : Hid _ := hdm
          have hne : ((x : Int) != (y : Int)) = false := by rw [bne_eq_false_iff_eq]; omega
          have HR : Hid _ := hr; have KR : Hid _ := kr
          clear hd hx c1 c2 e1 e2 hdm hxy hl hr kr
          go_wp2
          go_quiet (fail)
          go_wp2
          exact ⟨⟨m, by omega, rfl, HDM.out, btrans hB (bdrewN _ _), HR.out.keep (bdrewN _ _), KR.out.keep (bdrewN _ _)⟩, by simp [intOf]⟩
        · have hx' := hx hxy
          have HX : Hid _ := hx'
          have hne : ((x : Int) != (y : Int)) = true := by rw [bne_iff_ne]; omega
          have hdd : decide ((y : Int) < (x : Int)) = decide (y < x) := decide_eq_decide.2 (by omega)
          have HDD : Hid _ := hdd
          clear hd hx c1 c2 e1 e2 hxy hl hr kr hx' hdd
          go_wp2
          go_quiet (fail)
          go_wp2
          go_quiet (fail)
          go_wp2
          go_ret
          exact ⟨ret_bool HX.out.symm, btrans (btrans hB (bdrewN _ _)) (bdrewN _ _)⟩
  · have hl' : ((xs.length : Int) != (ys.length : Int)) = true := by rw [bne_iff_ne]; omega
    have hfin : decide (ys.length < xs.length) = decide (val ys < val xs) := by
      by_cases hlt : ys.length < xs.length
      · rw [decide_eq_true (cmp_len k.digits ta hlt), decide_eq_true hlt]
      · have := cmp_len h.digits tb (show xs.length < ys.length by omega)
        rw [decide_eq_false (by omega), decide_eq_false (by omega)]
    have HF : Hid _ := hfin
    clear hfin hl
    go_enter Try.func66, Try.ntmps66
    go_wp2
    go_ret
    exact ⟨ret_bool HF.out, Below.refl _ _⟩
end Go.Proofs.Ytfgbkmcbpmmfdaa
