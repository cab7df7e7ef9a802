/- Layer 1's own answers (embrasureref01): Add, Sub, VecPlus, VecMinus; joined out of the texts Ref. -/
import Derived.Test.YtjjdclckkhddbaaRows
import Derived.Test.YtjjdclckkhddbaaGsP
import Derived.WalkKit
import Derived.WalkSpells
import Derived.WalkLawsBesides
import Derived.LoopTactic
import Derived.BigQuiet
import Derived.Deep.QuietTactic
import Derived.Deep.OwnRows
import Derived.Deep.RegionHeld3
import Derived.Deep.DrawnRows
import Derived.Deep.AppendLies
import Derived.Deep.DeepCutAuto
import Derived.Deep.CutBlock
import Derived.Test.YtjjdclckkhddbaaGsF
namespace Go.Proofs.Ytjjdclckkhddbaa
open Go.RowKit
set_option linter.unusedVariables false
attribute [local go_sem ↓] Go.wp_at_zero Go.wp_at_succ

/-- The value of a row of digits, the lowest first. -/
def val : List Nat → Nat
  | [] => 0
  | d :: r => d + 65536 * val r
/-- A slice that holds these digits. -/
structure RowF (w : World) (a : Option Addr) (cap : Nat) (ds : List Nat) : Prop where
  le : ds.length ≤ cap
  most : cap ≤ maxLen
  digits : ∀ d ∈ ds, d < 65536
  cells : ds = [] ∨ ∃ b o, a = some ⟨b, o, none⟩ ∧ b < w.heap.size ∧ ∀ i, i < ds.length → w.cell? ⟨b, o + i, none⟩ = some (.int .u64 ((ds.getD i 0 : Nat) : Int))
theorem RowF.keep {W w1 : World} {a : Option Addr} {cap : Nat} {ds : List Nat} (h : RowF W a cap ds) (hb : Below W.heap.size W w1) : RowF w1 a cap ds := by
  refine ⟨h.le, h.most, h.digits, ?_⟩
  rcases h.cells with h | ⟨b, o, rfl, hlt, hc⟩
  · exact .inl h
  · exact .inr ⟨b, o, rfl, Nat.lt_of_lt_of_le hlt hb.size, fun i hi => (hb.cell (p := ⟨b, o + i, none⟩) hlt).trans (hc i hi)⟩
theorem RowF.at {w : World} {a : Option Addr} {cap : Nat} {ds : List Nat} (h : RowF w a cap ds) {i : Nat} (hi : i < ds.length) : ∃ b o, a = some ⟨b, o, none⟩ ∧ b < w.heap.size ∧ w.cell? ⟨b, o + i, none⟩ = some (.int .u64 ((ds.getD i 0 : Nat) : Int)) := by
  rcases h.cells with rfl | ⟨b, o, rfl, hlt, hc⟩
  · simp at hi
  · exact ⟨b, o, rfl, hlt, hc i hi⟩
theorem refAt (a : Option Addr) (cap : Nat) (ds : List Nat) (i : Nat) (w : World) (h : RowF w a cap ds) (hi : i ≤ 4611686018427387904) :
    Calls Try.prog 64 #[.slice a ds.length cap, .int .i64 i] w fun e w' => e = .returned (.int .u64 ((ds.getD i 0 : Nat) : Int)) ∧ w' = w := by
  have hle := h.le; have hmost := h.most
  unfold maxLen at hmost
  by_cases hlt : i < ds.length
  · obtain ⟨b, o, rfl, _, hc⟩ := h.at hlt
    generalize hd : ds.getD i 0 = d at *
    clear hd
    have hli : (i : Int) < (ds.length : Int) := by omega
    go_enter Try.func64, Try.ntmps64
    go_wp2
    go_ret
    exact ⟨rfl, rfl⟩
  · have hd : ds.getD i 0 = 0 := by rw [List.getD_eq_getElem?_getD, List.getElem?_eq_none (by omega)]; rfl
    rw [hd]
    have hli : ¬ (i : Int) < (ds.length : Int) := by omega
    clear hd
    go_enter Try.func64, Try.ntmps64
    go_wp2
    go_ret
    exact ⟨rfl, rfl⟩
/-- The same, the digit under a name. -/
theorem refAtN (a : Option Addr) (cap : Nat) (ds : List Nat) (i x : Nat) (w : World) (h : RowF w a cap ds) (hi : i ≤ 4611686018427387904) (hx : Hid (ds.getD i 0 = x)) :
    Calls Try.prog 64 #[.slice a ds.length cap, .int .i64 i] w fun e w' => e = .returned (.int .u64 (x : Int)) ∧ w' = w := by
  have := refAt a cap ds i w h hi; rw [hx.out] at this; exact this
/-- Without noughts at the end. -/
def Trim (ds : List Nat) : Prop := ds = [] ∨ ∃ r d, ds = r ++ [d] ∧ d ≠ 0
theorem take_snoc' {ds : List Nat} {n : Nat} (h : n < ds.length) : ds.take (n + 1) = ds.take n ++ [ds.getD n 0] := by
  rw [List.take_succ_eq_append_getElem h, List.getD_eq_getElem?_getD, List.getElem?_eq_getElem h]; rfl
theorem val_append (a b : List Nat) : val (a ++ b) = val a + 65536 ^ a.length * val b := by
  induction a with
  | nil => simp [val]
  | cons d r ih => simp only [List.cons_append, val, ih, List.length_cons, Nat.pow_succ]; rw [Nat.mul_add, ← Nat.mul_assoc, Nat.mul_comm 65536 (65536 ^ r.length)]; omega
theorem val_snoc0 (a : List Nat) : val (a ++ [0]) = val a := by rw [val_append]; simp [val]
set_option maxHeartbeats 1000000 in
theorem refCut (a : Option Addr) (cap : Nat) (ds : List Nat) (w : World) (h : RowF w a cap ds) :
    Calls Try.prog 65 #[.slice a ds.length cap] w fun e w' => (∃ n, n ≤ ds.length ∧ e = .returned (.slice a n cap) ∧ val (ds.take n) = val ds ∧ Trim (ds.take n)) ∧ w' = w := by
  have hle := h.le; have hmost := h.most
  unfold maxLen at hmost
  go_enter Try.func65, Try.ntmps65
  go_wp2
  go_loop [3] (fun t => ∃ n : Nat, n ≤ ds.length ∧ t = .int .i64 n ∧ val (ds.take n) = val ds) (fun t => (intOf t).toNat)
  case atStart => exact ⟨ds.length, Nat.le_refl _, rfl, by rw [List.take_length]⟩
  case round =>
    obtain ⟨n, hn, rfl, hv⟩ := hrel
    have HV : Hid _ := hv
    clear hv
    by_cases h0 : n = 0
    · subst h0
      go_wp2
      go_ret
      exact ⟨⟨0, Nat.zero_le _, rfl, HV.out, .inl rfl⟩, rfl⟩
    · obtain ⟨m, rfl⟩ : ∃ m, n = m + 1 := ⟨n - 1, by omega⟩
      obtain ⟨b, o, rfl, _, hc⟩ := h.at (i := m) (by omega)
      have ht := take_snoc' (ds := ds) (n := m) (by omega)
      generalize hd : ds.getD m 0 = d at *
      by_cases hz : d = 0
      · subst hz
        have hv : val (ds.take m) = val ds := by have := HV.out; rw [ht, val_snoc0] at this; exact this
        have HV2 : Hid _ := hv
        clear hv ht hd
        go_wp2
        exact ⟨⟨m, by omega, rfl, HV2.out⟩, by simp [intOf]⟩
      · have hz' : ((d : Int) == 0) = false := beq_eq_false_iff_ne.2 (by omega)
        have hT : Trim (ds.take (m + 1)) := .inr ⟨_, d, ht, hz⟩
        have HT : Hid _ := hT
        clear hT ht hd
        go_wp2
        go_ret
        exact ⟨⟨m + 1, by omega, rfl, HV.out, HT.out⟩, rfl⟩
/-- One is greater: the longer one, or by the highest digit that is unlike. -/
theorem val_lt (ds : List Nat) (h : ∀ d ∈ ds, d < 65536) : val ds < 65536 ^ ds.length := by
  induction ds with
  | nil => simp [val]
  | cons d r ih =>
    have h1 := ih fun x hx => h x (List.mem_cons_of_mem _ hx)
    have h2 := h d List.mem_cons_self
    simp only [val, List.length_cons, Nat.pow_succ]; omega
theorem pow_pos' (n : Nat) : 0 < 65536 ^ n := Nat.pow_pos (by decide)
theorem drop_cons {ds : List Nat} {k : Nat} (h : k < ds.length) : ds.drop k = ds.getD k 0 :: ds.drop (k + 1) := by
  rw [List.drop_eq_getElem_cons h, List.getD_eq_getElem?_getD, List.getElem?_eq_getElem h]; rfl
theorem val_split (ds : List Nat) (k : Nat) : val ds = val (ds.take k) + 65536 ^ (ds.take k).length * val (ds.drop k) := by
  have := val_append (ds.take k) (ds.drop k); rw [List.take_append_drop] at this; exact this
theorem digits_take {ds : List Nat} (h : ∀ d ∈ ds, d < 65536) (k : Nat) : ∀ d ∈ ds.take k, d < 65536 := fun d hd => h d (List.mem_of_mem_take hd)
/-- The highest digit that is unlike tells. -/
theorem cmp_digit {xs ys : List Nat} {k : Nat} (hl : xs.length = ys.length) (hk : k < xs.length) (ha : ∀ d ∈ xs, d < 65536) (hb : ∀ d ∈ ys, d < 65536) (hd : xs.drop (k + 1) = ys.drop (k + 1)) (hne : xs.getD k 0 ≠ ys.getD k 0) :
    decide (val ys < val xs) = decide (ys.getD k 0 < xs.getD k 0) := by
  have l1 : (xs.take k).length = k := by rw [List.length_take]; omega
  have l2 : (ys.take k).length = k := by rw [List.length_take]; omega
  have v1 := val_split xs k
  have v2 := val_split ys k
  have u1 := val_lt (xs.take k) (digits_take ha k)
  have u2 := val_lt (ys.take k) (digits_take hb k)
  rw [drop_cons hk, val] at v1
  rw [drop_cons (by omega), val, ← hd] at v2
  rw [l1] at v1 u1
  rw [l2] at v2 u2
  generalize xs.getD k 0 = x at *
  generalize ys.getD k 0 = y at *
  generalize val (xs.take k) = p at *
  generalize val (ys.take k) = q at *
  generalize val (xs.drop (k + 1)) = r at *
  rw [Nat.mul_add] at v1 v2
  generalize 65536 ^ k * (65536 * r) = t at *
  generalize hP : 65536 ^ k = P at *
  have key : ∀ x y p q : Nat, p < P → y < x → q < P → q + (P * y + t) < p + (P * x + t) := by
    intro x y p q h1 h2 h3
    have : P * (y + 1) ≤ P * x := Nat.mul_le_mul_left _ h2
    rw [Nat.mul_add, Nat.mul_one] at this; omega
  rcases Nat.lt_or_gt_of_ne hne with h | h
  · have := key y x q p u2 h u1
    rw [decide_eq_false (by omega), decide_eq_false (by omega)]
  · have := key x y p q u1 h u2
    rw [decide_eq_true (by omega), decide_eq_true h]
theorem trim_ge {ds : List Nat} (h : Trim ds) (hn : ds ≠ []) : 65536 ^ (ds.length - 1) ≤ val ds := by
  rcases h with h | ⟨r, d, rfl, hd⟩
  · exact absurd h hn
  · rw [val_append]
    simp only [val, List.length_append, List.length_cons, List.length_nil, Nat.zero_add, Nat.add_sub_cancel, Nat.mul_zero, Nat.add_zero]
    have : 65536 ^ r.length * 1 ≤ 65536 ^ r.length * d := Nat.mul_le_mul_left _ (by omega)
    omega
theorem cmp_len {xs ys : List Nat} (hb : ∀ d ∈ ys, d < 65536) (ta : Trim xs) (h : ys.length < xs.length) : val ys < val xs := by
  have h1 := val_lt ys hb
  have h2 := trim_ge ta (by intro e; rw [e] at h; simp at h)
  have h3 : 65536 ^ ys.length ≤ 65536 ^ (xs.length - 1) := Nat.pow_le_pow_right (by decide) (by omega)
  omega
theorem bdrewN (w : World) (n : Nat) : Below w.heap.size w (w.drewN n) := below_drewN (Below.refl _ _) n
set_option maxHeartbeats 2000000 in
theorem refMore (a b : Option Addr) (ca cb : Nat) (xs ys : List Nat) (w : World) (h : RowF w a ca xs) (k : RowF w b cb ys) (ta : Trim xs) (tb : Trim ys) :
    Calls Try.prog 62 #[.slice a xs.length ca, .slice b ys.length cb] w fun e w' => e = .returned (.bool (decide (val ys < val xs))) ∧ Below w.heap.size w w' := by
  have hle := h.le; have hmost := h.most; have kle := k.le; have kmost := k.most
  unfold maxLen at hmost kmost
  by_cases hl : xs.length = ys.length
  · have hl' : ((xs.length : Int) != (ys.length : Int)) = false := by rw [bne_eq_false_iff_eq]; omega
    have HL : Hid (xs.length = ys.length) := hl
    clear hl
    go_enter Try.func62, Try.ntmps62
    go_wp2
    go_loopw [5] (fun t W => ∃ n : Nat, n ≤ xs.length ∧ t = .int .i64 ((n : Int) - 1) ∧ xs.drop n = ys.drop n ∧ Below w.heap.size w W ∧ RowF W a ca xs ∧ RowF W b cb ys) (fun t _ => (intOf t + 1).toNat)
    case atStart => exact ⟨xs.length, Nat.le_refl _, rfl, by rw [List.drop_length, HL.out, List.drop_length], Below.refl _ _, h, k⟩
    case round =>
      obtain ⟨n, hn, rfl, hd, hB, hr, kr⟩ := hrel
      by_cases h0 : n = 0
      · subst h0
        have hab : xs = ys := hd
        go_wp2
        go_ret
        exact ⟨ret_boolF (by rw [hab, decide_eq_false (Nat.lt_irrefl _)]), hB⟩
      · obtain ⟨m, rfl⟩ : ∃ m, n = m + 1 := ⟨n - 1, by omega⟩
        have hl := HL.out
        obtain ⟨b1, o1, rfl, lt1, hc1⟩ := hr.at (i := m) (by omega)
        obtain ⟨b2, o2, rfl, lt2, hc2⟩ := kr.at (i := m) (by omega)
        have hx := cmp_digit hl (by omega) h.digits k.digits hd
        have c1 := drop_cons (ds := xs) (k := m) (by omega)
        have c2 := drop_cons (ds := ys) (k := m) (by omega)
        rw [hd] at c1
        generalize e1 : xs.getD m 0 = x at *
        generalize e2 : ys.getD m 0 = y at *
        have m0 : (0 : Int) ≤ (m : Int) := by omega
        have m1 : (m : Int) < (xs.length : Int) := by omega
        have m2 : (m : Int) < (ys.length : Int) := by omega
        by_cases hxy : x = y
        · have hdm : xs.drop m = ys.drop m := by rw [c1, c2, hxy]
          have HDM : Hid _ := hdm
          have hne : ((x : Int) != (y : Int)) = false := by rw [bne_eq_false_iff_eq]; omega
          have HR : Hid _ := hr; have KR : Hid _ := kr
          clear hd hx c1 c2 e1 e2 hdm hxy hl hr kr
          go_wp2
          go_quiet (fail)
          go_wp2
          exact ⟨⟨m, by omega, rfl, HDM.out, btransF hB (bdrewN _ _), HR.out.keep (bdrewN _ _), KR.out.keep (bdrewN _ _)⟩, by simp [intOf]⟩
        · have hx' := hx hxy
          have HX : Hid _ := hx'
          have hne : ((x : Int) != (y : Int)) = true := by rw [bne_iff_ne]; omega
          have hdd : decide ((y : Int) < (x : Int)) = decide (y < x) := decide_eq_decide.2 (by omega)
          have HDD : Hid _ := hdd
          clear hd hx c1 c2 e1 e2 hxy hl hr kr hx' hdd
          go_wp2
          go_quiet (fail)
          go_wp2
          go_quiet (fail)
          go_wp2
          go_ret
          exact ⟨ret_boolF HX.out.symm, btransF (btransF hB (bdrewN _ _)) (bdrewN _ _)⟩
  · have hl' : ((xs.length : Int) != (ys.length : Int)) = true := by rw [bne_iff_ne]; omega
    have hfin : decide (ys.length < xs.length) = decide (val ys < val xs) := by
      by_cases hlt : ys.length < xs.length
      · rw [decide_eq_true (cmp_len k.digits ta hlt), decide_eq_true hlt]
      · have := cmp_len h.digits tb (show xs.length < ys.length by omega)
        rw [decide_eq_false (by omega), decide_eq_false (by omega)]
    have HF : Hid _ := hfin
    clear hfin hl
    go_enter Try.func62, Try.ntmps62
    go_wp2
    go_ret
    exact ⟨ret_boolF HF.out, Below.refl _ _⟩
def vals (ds : List Nat) : List Value := ds.map fun d => .int .u64 ((d : Nat) : Int)
theorem info_u64 : (Try.prog.info? 84).map (fun i => (i.zero, i.size, i.bytes)) = some (some (.int .u64 0), 1, 8) := by kernel_rfl
/-- Not in what was there. -/
def Fresh (B : Nat) (c : Option Addr) : Prop := ∀ x, c = some x → B ≤ x.block
/-- What the call owns is a row. -/
theorem row_of_owns {W : World} {base : Nat} {v : Value} {ds : List Nat} (h : W.ownsRow base 84 1 v ds.length (vals ds)) (hd : ∀ d ∈ ds, d < 65536) :
    ∃ a cap, v = .slice a ds.length cap ∧ RowF W a cap ds ∧ Fresh base a := by
  rcases h.2 with ⟨rfl, h0⟩ | ⟨g, cap, cur, rfl, hg, hb, hn, hc, hs, ht⟩
  · have : ds = [] := List.eq_nil_of_length_eq_zero h0
    subst this
    exact ⟨none, 0, rfl, ⟨Nat.le_refl _, by unfold maxLen; omega, hd, .inl rfl⟩, fun x hx => by cases hx⟩
  · refine ⟨_, cap, rfl, ⟨hn, hc, hd, .inr ⟨g, 0, rfl, ?_, fun i hi => ?_⟩⟩, fun x hx => by cases hx; exact hg⟩
    · rcases Nat.lt_or_ge g W.heap.size with hlt | hge
      · exact hlt
      · rw [Array.getElem?_eq_none hge] at hb; cases hb
    · have e : W.cell? ⟨g, 0 + i, none⟩ = cur[0 + i]? := by simp [World.cell?, hb]
      rw [e, Nat.zero_add]
      have : (cur.toList.take (ds.length * 1))[i]? = (vals ds)[i]? := by rw [ht]
      rw [Nat.mul_one, List.getElem?_take_of_lt hi] at this
      rw [← Array.getElem?_toList, this]
      unfold vals
      rw [List.getElem?_map, List.getElem?_eq_getElem hi, List.getD_eq_getElem?_getD, List.getElem?_eq_getElem hi]
      rfl
theorem RowF.take {W : World} {a : Option Addr} {cap : Nat} {ds : List Nat} (h : RowF W a cap ds) (n : Nat) : RowF W a cap (ds.take n) := by
  have hl : (ds.take n).length ≤ ds.length := by rw [List.length_take]; omega
  refine ⟨Nat.le_trans hl h.le, h.most, digits_take h.digits n, ?_⟩
  rcases h.cells with rfl | ⟨b, o, rfl, hlt, hc⟩
  · left; simp
  · refine .inr ⟨b, o, rfl, hlt, fun i hi => ?_⟩
    rw [hc i (by omega)]
    have hi' : i < n := by rw [List.length_take] at hi; omega
    rw [List.getD_eq_getElem?_getD, List.getD_eq_getElem?_getD, List.getElem?_take_of_lt hi']
theorem RowF.store {W : World} {a : Option Addr} {cap : Nat} {ds : List Nat} (h : RowF W a cap ds) {p : Addr} {B : Nat} (hf : Fresh B a) (hp : p.block < B) (v : Value) : RowF (W.setCell p v) a cap ds := by
  refine ⟨h.le, h.most, h.digits, ?_⟩
  rcases h.cells with h | ⟨b, o, rfl, hlt, hc⟩
  · exact .inl h
  · refine .inr ⟨b, o, rfl, by simpa [World.setCell] using hlt, fun i hi => ?_⟩
    have hb : B ≤ b := hf _ rfl
    rw [World.cell?_setCell_other _ _ _ _ (fun e => by rw [e] at hp; simp at hp; omega)]
    exact hc i hi
theorem cell_new1 (W : World) (x : Value) (t : TypeId) : ∀ j u, [x][j]? = some u → (W.alloc (.cells #[x] t)).cell? ((⟨W.heap.size, 0, none⟩ : Addr).add j) = some u := by
  intro j u hj
  match j, hj with
  | 0, hj => simp at hj; subst hj; simp [Addr.add]
  | j + 1, hj => simp at hj
theorem vals_snoc {ds : List Nat} {d : Nat} {z : Int} (h : z = (d : Int)) : vals (ds ++ [d]) = vals ds ++ [.int .u64 z] := by unfold vals; rw [List.map_append, h]; rfl
/-- The value of the first digits. -/
theorem val_take_succ (ds : List Nat) (i : Nat) : val (ds.take (i + 1)) = val (ds.take i) + 65536 ^ i * ds.getD i 0 := by
  by_cases h : i < ds.length
  · rw [take_snoc' h, val_append, List.length_take, Nat.min_eq_left (by omega)]; simp [val]
  · rw [List.take_of_length_le (by omega), List.take_of_length_le (by omega), List.getD_eq_getElem?_getD, List.getElem?_eq_none (by omega)]; simp
theorem getD_lt {ds : List Nat} (h : ∀ d ∈ ds, d < 65536) (i : Nat) : ds.getD i 0 < 65536 := by
  rw [List.getD_eq_getElem?_getD]
  by_cases hi : i < ds.length
  · rw [List.getElem?_eq_getElem hi]; exact h _ (List.getElem_mem hi)
  · rw [List.getElem?_eq_none (by omega)]; decide
theorem snoc_digits {ds : List Nat} {d : Nat} (h : ∀ x ∈ ds, x < 65536) (hd : d < 65536) : ∀ x ∈ ds ++ [d], x < 65536 := by
  intro x hx; rcases List.mem_append.1 hx with hx | hx
  · exact h x hx
  · simp at hx; subst hx; exact hd
/-- One digit more of a sum. -/
theorem sum_step {ds : List Nat} {i x y c A B : Nat} (hl : ds.length = i) (hv : val ds + 65536 ^ i * c = A + B) :
    val (ds ++ [(x + y + c) % 65536]) + 65536 ^ (i + 1) * ((x + y + c) / 65536) = A + 65536 ^ i * x + (B + 65536 ^ i * y) := by
  rw [val_append, hl]
  simp only [val, Nat.mul_zero, Nat.add_zero]
  have e := Nat.div_add_mod (x + y + c) 65536
  have : 65536 ^ i * ((x + y + c) % 65536) + 65536 ^ (i + 1) * ((x + y + c) / 65536) = 65536 ^ i * (x + y + c) := by
    rw [Nat.pow_succ, Nat.mul_assoc, ← Nat.mul_add, Nat.add_comm, e]
  rw [Nat.mul_add, Nat.mul_add] at this
  omega
theorem sum_done {xs ys ds : List Nat} {n c : Nat} (hx : ∀ d ∈ xs, d < 65536) (hy : ∀ d ∈ ys, d < 65536) (hn : n = max xs.length ys.length + 1) (hv : val ds + 65536 ^ n * c = val (xs.take n) + val (ys.take n)) : val ds = val xs + val ys := by
  rw [List.take_of_length_le (by omega), List.take_of_length_le (by omega)] at hv
  have h1 := val_lt xs hx
  have h2 := val_lt ys hy
  have h3 : 65536 ^ xs.length ≤ 65536 ^ (n - 1) := Nat.pow_le_pow_right (by decide) (by omega)
  have h4 : 65536 ^ ys.length ≤ 65536 ^ (n - 1) := Nat.pow_le_pow_right (by decide) (by omega)
  have h5 : 65536 ^ n = 65536 ^ (n - 1) * 65536 := by rw [← Nat.pow_succ]; congr 1; omega
  have : c = 0 := by
    apply Nat.eq_zero_of_not_pos
    intro hc
    have : 65536 ^ n * 1 ≤ 65536 ^ n * c := Nat.mul_le_mul_left _ hc
    omega
  subst this; omega
theorem maxL_run (x y : Nat) (ts : Array TypeId) (t : TypeId) (W : World) : (Builtin.max_ ts t #[.int .i64 (x : Int), .int .i64 (y : Int)]).run Try.prog W = .ok (.int .i64 ((max x y : Nat) : Int)) W := by
  rw [run_max_int2]; congr 2; split <;> omega
set_option maxHeartbeats 4000000 in
theorem refSum (a b : Option Addr) (ca cb : Nat) (xs ys : List Nat) (w : World) (h : RowF w a ca xs) (k : RowF w b cb ys) (lx : xs.length ≤ 100) (ly : ys.length ≤ 100) :
    Calls Try.prog 61 #[.slice a xs.length ca, .slice b ys.length cb] w fun e w' =>
      (∃ c cc rs, e = .returned (.slice c rs.length cc) ∧ RowF w' c cc rs ∧ val rs = val xs + val ys ∧ Trim rs ∧ rs.length ≤ max xs.length ys.length + 1 ∧ Fresh w.heap.size c) ∧ Below w.heap.size w w' := by
  obtain ⟨i0, hi, hz0, hz1, hz2⟩ := info_parts info_u64
  have hm := maxL_run xs.length ys.length
  obtain ⟨N, hN⟩ : ∃ N, max xs.length ys.length = N := ⟨_, rfl⟩
  rw [hN] at hm
  have HN : Hid _ := hN
  have lN : N ≤ 100 := by omega
  clear hN
  go_enter Try.func61, Try.ntmps61
  go_wp2
  go_loopw [5, 6, 7] (fun v c t W => ∃ (i cy : Nat) (ds : List Nat), t = .int .i64 i ∧ c = .int .u64 cy ∧ i ≤ N + 1 ∧ cy ≤ 1 ∧ ds.length = i ∧ (∀ d ∈ ds, d < 65536) ∧ W.ownsRow w.heap.size 84 1 v i (vals ds) ∧ val ds + 65536 ^ i * cy = val (xs.take i) + val (ys.take i) ∧ Below w.heap.size w W) (fun _ _ t _ => N + 1 - (intOf t).toNat)
  case atStart =>
    refine ⟨0, 0, [], rfl, rfl, by omega, by omega, rfl, by simp, ⟨rfl, .inr ⟨w.heap.size, 0, #[], rfl, Nat.le_refl _, ?_, by omega, by unfold maxLen; omega, rfl, rfl⟩⟩, by simp [val], (Below.refl _ _).alloc (Nat.le_refl _) _⟩
    exact (MapKept.heap_alloc w _).1
  case round =>
    obtain ⟨i, cy, ds, rfl, rfl, hiN, hcy, hl, hdig, hown, hv, hB⟩ := hrel
    have hr := h.keep hB; have kr := k.keep hB
    by_cases hlt : i < N + 1
    · have hlt' : (i : Int) < (N : Int) + 1 := by omega
      have HV : Hid _ := hv; have HL : Hid _ := hl
      clear hv hl
      obtain ⟨x, ex⟩ : ∃ x, xs.getD i 0 = x := ⟨_, rfl⟩
      obtain ⟨y, ey⟩ : ∃ y, ys.getD i 0 = y := ⟨_, rfl⟩
      have hx := getD_lt h.digits i; have hy := getD_lt k.digits i
      have t1 := val_take_succ xs i; have t2 := val_take_succ ys i
      rw [ex] at hx t1; rw [ey] at hy t2
      have EX : Hid _ := ex; have EY : Hid _ := ey; have T1 : Hid _ := t1; have T2 : Hid _ := t2
      clear ex ey t1 t2
      go_wp2_with fail
      refine (refAtN a ca xs i x _ hr (by omega) EX).mono ?_
      rintro e W1 ⟨rfl, hw1⟩
      rw [hw1]
      clear hw1 W1
      go_wp2_with fail
      refine (refAtN b cb ys i y _ kr (by omega) EY).mono ?_
      rintro e W1 ⟨rfl, hw1⟩
      rw [hw1]
      clear hw1 W1
      go_wp2_with (at_builtin; refine wpList_append_own _ rfl _ _ 77 rfl w.heap.size 84 i0 (.int .u64 0) 1 8 Try.underlying77 hi hz0 hz1 hz2 rfl (by decide) _ _ _ rfl (hown.alloc _) ⟨wr.heap.size, 0, none⟩ 1 1 [.int .u64 (((x : Int) + (y : Int) + (cy : Int)) % 65536)] rfl rfl (cell_new1 _ _ _) (fun u hu => by simp at hu; subst hu; rfl) (by unfold maxLen; omega) (by omega) (by have := hB.size; simp; omega) ?_; intro v' w3 hown' hgrow hnil)
      have hd : (((x : Int) + (y : Int) + (cy : Int)) % 65536) = (((x + y + cy) % 65536 : Nat) : Int) := by omega
      have hq : (((x : Int) + (y : Int) + (cy : Int)) / 65536) = (((x + y + cy) / 65536 : Nat) : Int) := by omega
      refine ⟨⟨i + 1, (x + y + cy) / 65536, ds ++ [(x + y + cy) % 65536], by go_num, by rw [hq], by omega, by omega, by rw [List.length_append, HL.out]; rfl, snoc_digits hdig (by omega), by rw [vals_snoc hd]; exact hown', ?_, Below.grown (hB.alloc hB.size _) hgrow (by have := hB.size; simp; omega) (fun j hj => (hown.lt _ hj).1)⟩, by simp [intOf]; omega⟩
      rw [sum_step HL.out HV.out, T1.out, T2.out]
    · subst hl
      have hlt' : ¬ ((ds.length : Nat) : Int) < (N : Int) + 1 := by omega
      obtain ⟨a', cap', rfl, hrow, hfr⟩ := row_of_owns hown hdig
      have hsum : val ds = val xs + val ys := sum_done h.digits k.digits (by rw [HN.out]; omega) hv
      have HS : Hid _ := hsum
      clear hv hsum
      go_wp2_with fail
      refine (refCut a' cap' ds _ hrow).mono ?_
      rintro e W1 ⟨⟨n, hn, rfl, hvn, ht⟩, hw1⟩
      rw [hw1]
      clear hw1 W1
      have HVN : Hid _ := hvn
      clear hvn
      have hlen : (ds.take n).length = n := by rw [List.length_take, Nat.min_eq_left hn]
      have HLN : Hid _ := hlen
      clear hlen
      go_wp2
      go_ret
      exact ⟨⟨a', cap', ds.take n, by rw [HLN.out]; rfl, hrow.take n, HVN.out.trans HS.out, ht, by rw [HLN.out, HN.out]; omega, hfr⟩, hB⟩
/-- One digit more of a difference. -/
theorem less_step {ds : List Nat} {i x y c A B : Nat} (hl : ds.length = i) (hv : val ds + B = A + 65536 ^ i * c) (hx : x < 65536) (hy : y < 65536) (hc : c ≤ 1) :
    val (ds ++ [(x + 65536 - y - c) % 65536]) + (B + 65536 ^ i * y) = A + 65536 ^ i * x + 65536 ^ (i + 1) * (1 - (x + 65536 - y - c) / 65536) := by
  rw [val_append, hl]
  simp only [val, Nat.mul_zero, Nat.add_zero]
  have key : (x + 65536 - y - c) % 65536 + y + c = x + 65536 * (1 - (x + 65536 - y - c) / 65536) := by omega
  generalize (x + 65536 - y - c) % 65536 = d at *
  generalize 1 - (x + 65536 - y - c) / 65536 = e at *
  have : 65536 ^ i * (d + y + c) = 65536 ^ i * (x + 65536 * e) := by rw [key]
  rw [Nat.mul_add, Nat.mul_add, Nat.mul_add] at this
  rw [show 65536 ^ (i + 1) * e = 65536 ^ i * (65536 * e) from by rw [Nat.pow_succ, Nat.mul_assoc]]
  omega
theorem less_done {xs ys ds : List Nat} {c : Nat} (hd : ∀ d ∈ ds, d < 65536) (hn : ds.length = xs.length) (hyx : ys.length ≤ xs.length) (hle : val ys ≤ val xs) (hv : val ds + val (ys.take ds.length) = val (xs.take ds.length) + 65536 ^ ds.length * c) : val ds + val ys = val xs := by
  rw [List.take_of_length_le (by omega), List.take_of_length_le (by omega)] at hv
  have h1 := val_lt ds hd
  have : c = 0 := by
    apply Nat.eq_zero_of_not_pos
    intro hc
    have : 65536 ^ ds.length * 1 ≤ 65536 ^ ds.length * c := Nat.mul_le_mul_left _ hc
    omega
  subst this; omega
set_option maxHeartbeats 4000000 in
theorem refLess (a b : Option Addr) (ca cb : Nat) (xs ys : List Nat) (w : World) (h : RowF w a ca xs) (k : RowF w b cb ys) (lx : xs.length ≤ 100) (ty : Trim ys) (hle : val ys ≤ val xs) :
    Calls Try.prog 63 #[.slice a xs.length ca, .slice b ys.length cb] w fun e w' =>
      (∃ c cc rs, e = .returned (.slice c rs.length cc) ∧ RowF w' c cc rs ∧ val rs + val ys = val xs ∧ Trim rs ∧ rs.length ≤ xs.length ∧ Fresh w.heap.size c) ∧ Below w.heap.size w w' := by
  obtain ⟨i0, hi, hz0, hz1, hz2⟩ := info_parts info_u64
  have hyx : ys.length ≤ xs.length := by
    apply Nat.le_of_not_lt; intro hlt
    have := cmp_len h.digits ty hlt; omega
  have HLE : Hid _ := hle
  have HYX : Hid _ := hyx
  clear hle
  go_enter Try.func63, Try.ntmps63
  go_wp2
  go_loopw [5, 6, 7] (fun v c t W => ∃ (i cy : Nat) (ds : List Nat), t = .int .i64 i ∧ c = .int .u64 cy ∧ i ≤ xs.length ∧ cy ≤ 1 ∧ ds.length = i ∧ (∀ d ∈ ds, d < 65536) ∧ W.ownsRow w.heap.size 84 1 v i (vals ds) ∧ val ds + val (ys.take i) = val (xs.take i) + 65536 ^ i * cy ∧ Below w.heap.size w W) (fun _ _ t _ => xs.length - (intOf t).toNat)
  case atStart =>
    refine ⟨0, 0, [], rfl, rfl, by omega, by omega, rfl, by simp, ⟨rfl, .inr ⟨w.heap.size, 0, #[], rfl, Nat.le_refl _, ?_, by omega, by unfold maxLen; omega, rfl, rfl⟩⟩, by simp [val], (Below.refl _ _).alloc (Nat.le_refl _) _⟩
    exact (MapKept.heap_alloc w _).1
  case round =>
    obtain ⟨i, cy, ds, rfl, rfl, hiN, hcy, hl, hdig, hown, hv, hB⟩ := hrel
    have hr := h.keep hB; have kr := k.keep hB
    by_cases hlt : i < xs.length
    · have hlt' : (i : Int) < (xs.length : Int) := by omega
      have HV : Hid _ := hv; have HL : Hid _ := hl
      clear hv hl
      obtain ⟨x, ex⟩ : ∃ x, xs.getD i 0 = x := ⟨_, rfl⟩
      obtain ⟨y, ey⟩ : ∃ y, ys.getD i 0 = y := ⟨_, rfl⟩
      have hx := getD_lt h.digits i; have hy := getD_lt k.digits i
      have t1 := val_take_succ xs i; have t2 := val_take_succ ys i
      rw [ex] at hx t1; rw [ey] at hy t2
      have EX : Hid _ := ex; have EY : Hid _ := ey; have T1 : Hid _ := t1; have T2 : Hid _ := t2
      clear ex ey t1 t2
      go_wp2_with fail
      refine (refAtN a ca xs i x _ hr (by omega) EX).mono ?_
      rintro e W1 ⟨rfl, hw1⟩
      rw [hw1]
      clear hw1 W1
      go_wp2_with fail
      refine (refAtN b cb ys i y _ kr (by omega) EY).mono ?_
      rintro e W1 ⟨rfl, hw1⟩
      rw [hw1]
      clear hw1 W1
      go_wp2_with (at_builtin; refine wpList_append_own _ rfl _ _ 77 rfl w.heap.size 84 i0 (.int .u64 0) 1 8 Try.underlying77 hi hz0 hz1 hz2 rfl (by decide) _ _ _ rfl (hown.alloc _) ⟨wr.heap.size, 0, none⟩ 1 1 [.int .u64 (((x : Int) + 65536 - (y : Int) - (cy : Int)) % 65536)] rfl rfl (cell_new1 _ _ _) (fun u hu => by simp at hu; subst hu; rfl) (by unfold maxLen; omega) (by omega) (by have := hB.size; simp; omega) ?_; intro v' w3 hown' hgrow hnil)
      have hd : (((x : Int) + 65536 - (y : Int) - (cy : Int)) % 65536) = (((x + 65536 - y - cy) % 65536 : Nat) : Int) := by omega
      have hq : 1 - (((x : Int) + 65536 - (y : Int) - (cy : Int)) / 65536) = ((1 - (x + 65536 - y - cy) / 65536 : Nat) : Int) := by omega
      refine ⟨⟨i + 1, 1 - (x + 65536 - y - cy) / 65536, ds ++ [(x + 65536 - y - cy) % 65536], by go_num, by rw [hq], by omega, by omega, by rw [List.length_append, HL.out]; rfl, snoc_digits hdig (by omega), by rw [vals_snoc hd]; exact hown', ?_, Below.grown (hB.alloc hB.size _) hgrow (by have := hB.size; simp; omega) (fun j hj => (hown.lt _ hj).1)⟩, by simp [intOf]; omega⟩
      rw [T1.out, T2.out]
      exact less_step HL.out HV.out hx hy hcy
    · subst hl
      have hlt' : ¬ ((ds.length : Nat) : Int) < (xs.length : Int) := by omega
      obtain ⟨a', cap', rfl, hrow, hfr⟩ := row_of_owns hown hdig
      have hsum : val ds + val ys = val xs := less_done hdig (by omega) HYX.out HLE.out hv
      have HS : Hid _ := hsum
      clear hv hsum
      go_wp2_with fail
      refine (refCut a' cap' ds _ hrow).mono ?_
      rintro e W1 ⟨⟨n, hn, rfl, hvn, ht⟩, hw1⟩
      rw [hw1]
      clear hw1 W1
      have HVN : Hid _ := hvn
      clear hvn
      have hlen : (ds.take n).length = n := by rw [List.length_take, Nat.min_eq_left hn]
      have HLN : Hid _ := hlen
      clear hlen
      go_wp2
      go_ret
      exact ⟨⟨a', cap', ds.take n, by rw [HLN.out]; rfl, hrow.take n, by rw [HVN.out]; exact HS.out, ht, by rw [HLN.out]; omega, hfr⟩, hB⟩
/-- A row that may be written. -/
structure Out (W : World) (g : Nat) (ds : List Nat) : Prop where
  lt : g < W.heap.size
  digits : ∀ d ∈ ds, d < 65536
  cells : ∀ j, j < ds.length → W.cell? ⟨g, j, none⟩ = some (.int .u64 ((ds.getD j 0 : Nat) : Int))
  frozen : ∀ j, W.frozen? ⟨g, j, none⟩ = false
theorem Out.row {W : World} {g : Nat} {ds : List Nat} (h : Out W g ds) (hm : ds.length ≤ maxLen) : RowF W (some ⟨g, 0, none⟩) ds.length ds :=
  ⟨Nat.le_refl _, hm, h.digits, .inr ⟨g, 0, rfl, h.lt, fun i hi => by rw [Nat.zero_add]; exact h.cells i hi⟩⟩
theorem getD_set {ds : List Nat} {j i d : Nat} (hj : j < ds.length) : (ds.set j d).getD i 0 = if i = j then d else ds.getD i 0 := by
  rw [List.getD_eq_getElem?_getD, List.getD_eq_getElem?_getD, List.getElem?_set]
  by_cases h : j = i
  · subst h; simp [hj]
  · rw [if_neg h, if_neg (fun e => h e.symm)]
theorem set_digits {ds : List Nat} {j d : Nat} (h : ∀ x ∈ ds, x < 65536) (hd : d < 65536) : ∀ x ∈ ds.set j d, x < 65536 := by
  intro x hx; rcases List.mem_or_eq_of_mem_set hx with hx | hx
  · exact h x hx
  · rw [hx]; exact hd
theorem Out.set {W : World} {g : Nat} {ds : List Nat} (h : Out W g ds) {j d : Nat} {z : Int} (hj : j < ds.length) (hd : d < 65536) (hz : z = (d : Int)) : Out (W.setCell ⟨g, j, none⟩ (.int .u64 z)) g (ds.set j d) := by
  refine ⟨by simpa [World.setCell] using h.lt, set_digits h.digits hd, fun i hi => ?_, fun i => by rw [World.frozen?_setCell]; exact h.frozen i⟩
  rw [List.length_set] at hi
  rw [getD_set hj]
  by_cases e : i = j
  · subst e; rw [if_pos rfl, hz]; exact World.cell?_setCell_same _ _ _ (h.cells i hi)
  · rw [if_neg e, World.cell?_setCell_other _ _ _ _ (fun he => e (by cases he; rfl))]; exact h.cells i hi
theorem len3 {n m : Nat} {ds : List Nat} (h : n = val ds + 65536 ^ ds.length * m) (hm : 0 < m) (hn : n ≤ 9223372036854775808) : ds.length ≤ 3 := by
  apply Nat.le_of_not_lt
  intro hlt
  have h1 : 65536 ^ 4 ≤ 65536 ^ ds.length := Nat.pow_le_pow_right (by decide) hlt
  have h2 : 65536 ^ ds.length * 1 ≤ 65536 ^ ds.length * m := Nat.mul_le_mul_left _ hm
  omega
theorem of_len {n m : Nat} {ds : List Nat} (h : n = val ds + 65536 ^ ds.length * m) (ht : Trim ds) (hd : ∀ d ∈ ds, d < 65536) (hn : n ≤ 9223372036854775808) : ds.length ≤ 4 := by
  apply Nat.le_of_not_lt
  intro hlt
  have h1 := trim_ge ht (by intro e; rw [e] at hlt; simp at hlt)
  have h2 : 65536 ^ 4 ≤ 65536 ^ (ds.length - 1) := Nat.pow_le_pow_right (by decide) (by omega)
  omega
theorem of_alg {n m d : Nat} {ds : List Nat} (h : n = val ds + 65536 ^ ds.length * m) (hd : m % 65536 = d) : n = val (ds ++ [d]) + 65536 ^ (ds ++ [d]).length * (m / 65536) := by
  rw [val_append, List.length_append]
  simp only [val, List.length_cons, List.length_nil, Nat.mul_zero, Nat.add_zero, Nat.zero_add]
  have e := Nat.div_add_mod m 65536
  rw [hd] at e
  have : 65536 ^ ds.length * m = 65536 ^ ds.length * (65536 * (m / 65536) + d) := by rw [e]
  rw [Nat.mul_add, ← Nat.mul_assoc] at this
  rw [Nat.pow_succ]
  omega
theorem two_newD {W : World} {b : Nat} {x y u0 u1 : Value} (h0 : W.cell? ⟨b, 0, none⟩ = some u0) (h1 : W.cell? ⟨b, 1, none⟩ = some u1) :
    ((W.setCell ⟨b, 0, none⟩ x).setCell ⟨b, 1, none⟩ y).cell? ⟨b, 0, none⟩ = some x ∧ ((W.setCell ⟨b, 0, none⟩ x).setCell ⟨b, 1, none⟩ y).cell? ⟨b, 1, none⟩ = some y := by
  obtain ⟨_, k1⟩ := cell?_setCell_some (p := ⟨b, 0, none⟩) (x := x) h1
  refine ⟨?_, World.cell?_setCell_same _ _ _ k1⟩
  rw [World.cell?_setCell_other _ _ _ _ (by simp)]; exact World.cell?_setCell_same _ _ _ h0
/-- The box that is filled (behind the box of the result). -/
structure OfBox (W : World) (B : Nat) (s : Bool) (v : Value) (ds : List Nat) : Prop where
  lt : B + 1 < W.heap.size
  c0 : W.cell? ⟨B + 1, 0, none⟩ = some (.bool s)
  c1 : W.cell? ⟨B + 1, 1, none⟩ = some v
  f1 : W.frozen? ⟨B + 1, 1, none⟩ = false
  r0 : W.cell? ⟨B, 0, none⟩ = some (.bool false)
  r1 : W.cell? ⟨B, 1, none⟩ = some (.slice none 0 0)
  fr0 : W.frozen? ⟨B, 0, none⟩ = false
  fr1 : W.frozen? ⟨B, 1, none⟩ = false
  own : W.ownsRow (B + 2) 84 1 v ds.length (vals ds)
theorem OfBox.start (w : World) (s : Bool) : OfBox ((w.alloc (.cells #[.bool false, .slice none 0 0] 79)).alloc (.cells #[.bool s, .slice none 0 0] 79)) w.heap.size s (.slice none 0 0) [] :=
  ⟨by simp, by simp [go_sem], by simp [go_sem], by simp [go_sem], by simp [go_sem], by simp [go_sem], by simp [go_sem], by simp [go_sem], ⟨rfl, .inl ⟨rfl, rfl⟩⟩⟩
/-- Behind an append: all but the row is as it was. -/
theorem OfBox.grown {W W3 : World} {B : Nat} {s : Bool} {v : Value} {ds : List Nat} {o : Obj} (h : OfBox W B s v ds) (hg : (W.alloc o).grownBy W3 v.ownBlock) :
    B + 1 < W3.heap.size ∧ W3.cell? ⟨B + 1, 0, none⟩ = some (.bool s) ∧ W3.cell? ⟨B + 1, 1, none⟩ = some v ∧ W3.frozen? ⟨B + 1, 1, none⟩ = false ∧ W3.cell? ⟨B, 0, none⟩ = some (.bool false) ∧ W3.cell? ⟨B, 1, none⟩ = some (.slice none 0 0) ∧ W3.frozen? ⟨B, 0, none⟩ = false ∧ W3.frozen? ⟨B, 1, none⟩ = false := by
  have hlt := h.lt
  have blk : ∀ b, b < B + 2 → W3.heap[b]? = W.heap[b]? := by
    intro b hb
    rw [hg.block b (by simp; omega) (fun e => by have := (h.own.lt _ e.symm).1; omega), Below.heap_alloc _ _ _ (by omega)]
  have hsz := hg.size
  simp only [World.size_alloc] at hsz
  exact ⟨by omega, (World.cell?_of_block (w := W) (blk _ (by simp))).trans h.c0, (World.cell?_of_block (w := W) (blk _ (by simp))).trans h.c1, (World.frozen?_of_block (w := W) (blk _ (by simp))).trans h.f1, (World.cell?_of_block (w := W) (blk _ (by simp))).trans h.r0, (World.cell?_of_block (w := W) (blk _ (by simp))).trans h.r1, (World.frozen?_of_block (w := W) (blk _ (by simp))).trans h.fr0, (World.frozen?_of_block (w := W) (blk _ (by simp))).trans h.fr1⟩
theorem of_store {w3 : World} {B : Nat} {s : Bool} {v v' : Value} {ds : List Nat} {d : Nat} {z : Int} (g0 : B + 1 < w3.heap.size) (g1 : w3.cell? ⟨B + 1, 0, none⟩ = some (.bool s)) (g2 : w3.cell? ⟨B + 1, 1, none⟩ = some v) (g3 : w3.frozen? ⟨B + 1, 1, none⟩ = false) (g4 : w3.cell? ⟨B, 0, none⟩ = some (.bool false)) (g5 : w3.cell? ⟨B, 1, none⟩ = some (.slice none 0 0)) (g6 : w3.frozen? ⟨B, 0, none⟩ = false) (g7 : w3.frozen? ⟨B, 1, none⟩ = false)
    (hown : w3.ownsRow (B + 2) 84 1 v' (ds.length + 1) (vals ds ++ [.int .u64 z])) (hz : z = (d : Int)) : OfBox (w3.setCell ⟨B + 1, 1, none⟩ v') B s v' (ds ++ [d]) := by
  refine ⟨by simpa [World.setCell] using g0, ?_, World.cell?_setCell_same _ _ _ g2, ?_, ?_, ?_, ?_, ?_, ?_⟩
  · rw [World.cell?_setCell_other _ _ _ _ (by simp)]; exact g1
  · rw [World.frozen?_setCell]; exact g3
  · rw [World.cell?_setCell_other _ _ _ _ (by simp)]; exact g4
  · rw [World.cell?_setCell_other _ _ _ _ (by simp)]; exact g5
  · rw [World.frozen?_setCell]; exact g6
  · rw [World.frozen?_setCell]; exact g7
  · rw [vals_snoc hz, List.length_append]; exact ownsRow_setCell_below hown (by simp) _
set_option maxHeartbeats 4000000 in
theorem refOfP (n : Nat) (hn : n ≤ 9223372036854775807) (w : World) :
    Calls Try.prog 55 #[.int .i64 ((n : Int))] w fun e w' =>
      (∃ c cc rs, e = .returned (.agg #[.bool false, .slice c rs.length cc]) ∧ RowF w' c cc rs ∧ val rs = n ∧ Trim rs ∧ rs.length ≤ 4 ∧ Fresh w.heap.size c) ∧ Below w.heap.size w w' := by
  obtain ⟨i0, hi, hz0, hz1, hz2⟩ := info_parts info_u64
  have hsgn : decide ((n : Int) < 0) = false := by exact decide_eq_false (by omega)
  go_enter Try.func55, Try.ntmps55
  go_wp2
  go_loopw [0] (fun t W => ∃ (m : Nat) (ds : List Nat) (v : Value), t = .int .i64 ((m : Int)) ∧ n = val ds + 65536 ^ ds.length * m ∧ (∀ d ∈ ds, d < 65536) ∧ (m = 0 → Trim ds) ∧ OfBox W w.heap.size false v ds ∧ Below w.heap.size w W) (fun t _ => (intOf t).natAbs)
  case atStart => exact ⟨n, [], _, rfl, by simp [val], by simp, fun _ => .inl rfl, OfBox.start w false, ((Below.refl _ _).alloc (Nat.le_refl _) _).alloc (by simp) _⟩
  case round =>
    obtain ⟨m, ds, v, rfl, hv, hd, ht, hbx, hB⟩ := hrel
    have c0 := hbx.c0; have c1 := hbx.c1; have f1 := hbx.f1; have r0 := hbx.r0; have r1 := hbx.r1; have fr0 := hbx.fr0; have fr1 := hbx.fr1
    have HV : Hid _ := hv
    by_cases h0 : m = 0
    · subst h0
      have hT := ht rfl
      have own2 := ownsRow_setCell_below (ownsRow_setCell_below hbx.own (a := ⟨w.heap.size, 0, none⟩) (by simp) (.bool false)) (a := ⟨w.heap.size, 1, none⟩) (by simp) v
      obtain ⟨a', cap', rfl, hrow, hfr⟩ := row_of_owns own2 hd
      obtain ⟨t0, t1⟩ := two_newD (x := .bool false) (y := .slice a' ds.length cap') r0 r1
      have hlen : ds.length ≤ 4 := of_len hv hT hd (by omega)
      clear hv ht own2
      go_wp2
      refine bodyPost_ret (v := .agg #[.bool false, .slice a' ds.length cap']) ?_ rfl ⟨⟨a', cap', ds, rfl, hrow, ?_, hT, hlen, fun x hx => by have := hfr x hx; omega⟩, (hB.setCell (Nat.le_refl _) _).setCell (Nat.le_refl _) _⟩
      · simp [results, Try.results55, go_sem, t0, t1]
      · have := HV.out; omega
    · have hne : ((m : Int) != 0) = true := by rw [bne_iff_ne]; omega
      have hlen : ds.length ≤ 3 := len3 hv (by omega) (by omega)
      have hm : m ≤ 9223372036854775807 := by
        have : 1 * m ≤ 65536 ^ ds.length * m := Nat.mul_le_mul_right _ (pow_pos' _)
        omega
      have hsz := hbx.lt
      
      
      obtain ⟨d, ed⟩ : ∃ d, m % 65536 = d := ⟨_, rfl⟩
      have hdl : d < 65536 := by omega
      have hfin := of_alg (d := d) hv ed
      have HF : Hid _ := hfin
      have htr : m / 65536 = 0 → Trim (ds ++ [d]) := fun hq => .inr ⟨ds, d, rfl, by omega⟩
      have HT : Hid _ := htr
      
      have hmi : (m : Int) % 65536 = (d : Int) := by omega
      have hmq : (m : Int) / 65536 = ((m / 65536 : Nat) : Int) := by omega
      have hmlt : m / 65536 < m := by omega
      have HQ : Hid _ := hmq
      clear hv ht ed hfin htr hmq
      go_wp2_with (at_builtin; refine wpList_append_lies _ rfl _ _ 77 rfl (w.heap.size + 2) 84 i0 (.int .u64 0) 1 8 Try.underlying77 hi hz0 hz1 hz2 rfl (by decide) _ _ _ rfl (hbx.own.alloc _) ⟨wr.heap.size, 0, none⟩ 1 1 [.int .u64 (d : Int)] rfl rfl (cell_new1 _ _ _) (fun u hu => by simp at hu; subst hu; rfl) (by omega) (by unfold maxLen; omega) (by omega) (by simp; omega) (wr.heap.size + 1) (by simp) ?_; intro g cap w3 hown' hgrow hat hglt; obtain ⟨g0, g1, g2, g3, g4, g5, g6, g7⟩ := hbx.grown hgrow)
      exact ⟨⟨m / 65536, ds ++ [d], .slice (some ⟨g, 0, none⟩) (ds.length + 1) cap, by rw [HQ.out], HF.out, snoc_digits hd hdl, HT.out, of_store g0 g1 g2 g3 g4 g5 g6 g7 hown' rfl, (Below.grown (hB.alloc hB.size _) hgrow (by simp; omega) (fun j hj => by have := (hbx.own.lt _ hj).1; omega)).setCell (by simp) _⟩, by simp [intOf]; omega⟩
set_option maxHeartbeats 4000000 in
theorem refOfN (n : Nat) (hn : n ≤ 9223372036854775808) (hn0 : 0 < n) (w : World) :
    Calls Try.prog 55 #[.int .i64 (-(n : Int))] w fun e w' =>
      (∃ c cc rs, e = .returned (.agg #[.bool true, .slice c rs.length cc]) ∧ RowF w' c cc rs ∧ val rs = n ∧ Trim rs ∧ rs.length ≤ 4 ∧ Fresh w.heap.size c) ∧ Below w.heap.size w w' := by
  obtain ⟨i0, hi, hz0, hz1, hz2⟩ := info_parts info_u64
  have hsgn : decide (-(n : Int) < 0) = true := by exact decide_eq_true (by omega)
  go_enter Try.func55, Try.ntmps55
  go_wp2
  go_loopw [0] (fun t W => ∃ (m : Nat) (ds : List Nat) (v : Value), t = .int .i64 (-(m : Int)) ∧ n = val ds + 65536 ^ ds.length * m ∧ (∀ d ∈ ds, d < 65536) ∧ (m = 0 → Trim ds) ∧ OfBox W w.heap.size true v ds ∧ Below w.heap.size w W) (fun t _ => (intOf t).natAbs)
  case atStart => exact ⟨n, [], _, rfl, by simp [val], by simp, fun _ => .inl rfl, OfBox.start w true, ((Below.refl _ _).alloc (Nat.le_refl _) _).alloc (by simp) _⟩
  case round =>
    obtain ⟨m, ds, v, rfl, hv, hd, ht, hbx, hB⟩ := hrel
    have c0 := hbx.c0; have c1 := hbx.c1; have f1 := hbx.f1; have r0 := hbx.r0; have r1 := hbx.r1; have fr0 := hbx.fr0; have fr1 := hbx.fr1
    have HV : Hid _ := hv
    by_cases h0 : m = 0
    · subst h0
      have hT := ht rfl
      have own2 := ownsRow_setCell_below (ownsRow_setCell_below hbx.own (a := ⟨w.heap.size, 0, none⟩) (by simp) (.bool true)) (a := ⟨w.heap.size, 1, none⟩) (by simp) v
      obtain ⟨a', cap', rfl, hrow, hfr⟩ := row_of_owns own2 hd
      obtain ⟨t0, t1⟩ := two_newD (x := .bool true) (y := .slice a' ds.length cap') r0 r1
      have hlen : ds.length ≤ 4 := of_len hv hT hd (by omega)
      clear hv ht own2
      go_wp2
      refine bodyPost_ret (v := .agg #[.bool true, .slice a' ds.length cap']) ?_ rfl ⟨⟨a', cap', ds, rfl, hrow, ?_, hT, hlen, fun x hx => by have := hfr x hx; omega⟩, (hB.setCell (Nat.le_refl _) _).setCell (Nat.le_refl _) _⟩
      · simp [results, Try.results55, go_sem, t0, t1]
      · have := HV.out; omega
    · have hne : (-(m : Int) != 0) = true := by rw [bne_iff_ne]; omega
      have hlen : ds.length ≤ 3 := len3 hv (by omega) (by omega)
      have hm : m ≤ 9223372036854775808 := by
        have : 1 * m ≤ 65536 ^ ds.length * m := Nat.mul_le_mul_right _ (pow_pos' _)
        omega
      have hsz := hbx.lt
      have hmod : (-(m : Int)).tmod 65536 = -(((m % 65536 : Nat) : Int)) := by rw [Int.neg_tmod, Int.tmod_eq_emod_of_nonneg (by omega)]; omega
      have hdiv : (-(m : Int)).tdiv 65536 = -(((m / 65536 : Nat) : Int)) := by rw [Int.neg_tdiv, Int.tdiv_eq_ediv_of_nonneg (by omega)]; omega
      obtain ⟨d, ed⟩ : ∃ d, m % 65536 = d := ⟨_, rfl⟩
      have hdl : d < 65536 := by omega
      have hfin := of_alg (d := d) hv ed
      have HF : Hid _ := hfin
      have htr : m / 65536 = 0 → Trim (ds ++ [d]) := fun hq => .inr ⟨ds, d, rfl, by omega⟩
      have HT : Hid _ := htr
      rw [ed] at hmod
      have hmi : (m : Int) % 65536 = (d : Int) := by omega
      have hmq : (m : Int) / 65536 = ((m / 65536 : Nat) : Int) := by omega
      have hmlt : m / 65536 < m := by omega
      have HQ : Hid _ := hmq
      clear hv ht ed hfin htr hmq
      by_cases hd0 : d = 0
      · subst hd0
        go_wp2_with (at_builtin; refine wpList_append_lies _ rfl _ _ 77 rfl (w.heap.size + 2) 84 i0 (.int .u64 0) 1 8 Try.underlying77 hi hz0 hz1 hz2 rfl (by decide) _ _ _ rfl (hbx.own.alloc _) ⟨wr.heap.size, 0, none⟩ 1 1 [.int .u64 0] rfl rfl (cell_new1 _ _ _) (fun u hu => by simp at hu; subst hu; rfl) (by omega) (by unfold maxLen; omega) (by omega) (by simp; omega) (wr.heap.size + 1) (by simp) ?_; intro g cap w3 hown' hgrow hat hglt; obtain ⟨g0, g1, g2, g3, g4, g5, g6, g7⟩ := hbx.grown hgrow)
        exact ⟨⟨m / 65536, ds ++ [0], .slice (some ⟨g, 0, none⟩) (ds.length + 1) cap, by rw [HQ.out], HF.out, snoc_digits hd hdl, HT.out, of_store g0 g1 g2 g3 g4 g5 g6 g7 hown' rfl, (Below.grown (hB.alloc hB.size _) hgrow (by simp; omega) (fun j hj => by have := (hbx.own.lt _ hj).1; omega)).setCell (by simp) _⟩, by simp [intOf]; omega⟩
      · have hd1 : (0 : Int) < (d : Int) := by omega
        go_wp2_with (at_builtin; refine wpList_append_lies _ rfl _ _ 77 rfl (w.heap.size + 2) 84 i0 (.int .u64 0) 1 8 Try.underlying77 hi hz0 hz1 hz2 rfl (by decide) _ _ _ rfl (hbx.own.alloc _) ⟨wr.heap.size, 0, none⟩ 1 1 [.int .u64 (d : Int)] rfl rfl (cell_new1 _ _ _) (fun u hu => by simp at hu; subst hu; rfl) (by omega) (by unfold maxLen; omega) (by omega) (by simp; omega) (wr.heap.size + 1) (by simp) ?_; intro g cap w3 hown' hgrow hat hglt; obtain ⟨g0, g1, g2, g3, g4, g5, g6, g7⟩ := hbx.grown hgrow)
        exact ⟨⟨m / 65536, ds ++ [d], .slice (some ⟨g, 0, none⟩) (ds.length + 1) cap, by rw [HQ.out], HF.out, snoc_digits hd hdl, HT.out, of_store g0 g1 g2 g3 g4 g5 g6 g7 hown' rfl, (Below.grown (hB.alloc hB.size _) hgrow (by simp; omega) (fun j hj => by have := (hbx.own.lt _ hj).1; omega)).setCell (by simp) _⟩, by simp [intOf]; omega⟩
/-- The end of a side. -/
def rend (b : Bool) : Int := if b then -9223372036854775808 else 9223372036854775807
theorem refEnd (b : Bool) (w : World) :
    Calls Try.prog 60 #[.bool b] w fun e w' => e = .returned (.int .i64 (rend b)) ∧ w' = w := by
  cases b
  all_goals
    go_enter Try.func60, Try.ntmps60
    go_wp2
    go_ret
    exact ⟨rfl, rfl⟩
theorem numb_rend {q : Int} (b : Bool) (h : 9223372036854775807 < q) : numb q b = rend b := by
  cases b
  · rw [numb_f]; unfold sat rend; rw [if_pos (by omega)]; rfl
  · rw [numb_t]; unfold sat rend
    by_cases e : q = 9223372036854775808
    · subst e; rfl
    · rw [if_neg (by omega), if_pos (by omega)]; rfl
theorem val_drop {ds : List Nat} {k : Nat} (h : k < ds.length) : val (ds.drop k) = ds.getD k 0 + 65536 * val (ds.drop (k + 1)) := by rw [drop_cons h, val]
theorem val_ge_drop (ds : List Nat) (k : Nat) (h : k < ds.length) : 65536 * val (ds.drop (k + 1)) ≤ val ds := by
  have h1 := val_split ds k
  rw [val_drop h] at h1
  have : 1 * (ds.getD k 0 + 65536 * val (ds.drop (k + 1))) ≤ 65536 ^ (ds.take k).length * (ds.getD k 0 + 65536 * val (ds.drop (k + 1))) := Nat.mul_le_mul_right _ (pow_pos' _)
  omega
set_option maxRecDepth 100000 in
set_option maxHeartbeats 2000000 in
theorem refInt (s : Bool) (a : Option Addr) (cap : Nat) (ds : List Nat) (w : World) (h : RowF w a cap ds) :
    Calls Try.prog 53 #[.agg #[.bool s, .slice a ds.length cap]] w fun e w' => e = .returned (.int .i64 (numb (val ds : Nat) s)) ∧ Below w.heap.size w w' := by
  have hle := h.le; have hmost := h.most
  unfold maxLen at hmost
  have hB : Below w.heap.size w (w.alloc (.cells #[.bool s, .slice a ds.length cap] 79)) := (Below.refl _ _).alloc (Nat.le_refl _) _
  have hr := h.keep hB
  obtain ⟨R, hR⟩ : ∃ R, numb (val ds : Nat) s = R := ⟨_, rfl⟩
  have HR : Hid _ := hR
  rw [hR]
  clear hR
  go_enter Try.func53, Try.ntmps53
  go_wp2
  go_loop [3, 4] (fun n t => ∃ k : Nat, k ≤ ds.length ∧ t = .int .i64 ((k : Int) - 1) ∧ n = .int .u64 ((val (ds.drop k) : Nat) : Int) ∧ val (ds.drop k) < 18446744073709551616) (fun _ t => (intOf t + 1).toNat)
  case atStart => exact ⟨ds.length, Nat.le_refl _, rfl, by rw [List.drop_length]; rfl, by rw [List.drop_length]; decide⟩
  case round =>
    obtain ⟨k, hk, rfl, rfl, hlt⟩ := hrel
    by_cases h0 : k = 0
    · subst h0
      rw [List.drop_zero] at hlt ⊢
      generalize hV : val ds = V at *
      by_cases hbig : (9223372036854775807 : Int) < (V : Int)
      · have hres : R = rend s := by rw [← HR.out]; exact numb_rend s hbig
        have HE : Hid _ := hres
        clear hV hres
        go_wp2_with fail
        refine (refEnd s _).mono ?_; rintro e W1 ⟨rfl, hw1⟩
        rw [hw1]
        go_wp2
        go_ret
        exact ⟨by rw [HE.out]; rfl, hB⟩
      · have hres : R = if s then -(V : Int) else (V : Int) := by
          rw [← HR.out]; cases s
          · rw [numb_f]; exact sat_id ⟨by omega, by omega⟩
          · rw [numb_t]; exact sat_id ⟨by omega, by omega⟩
        have HE : Hid _ := hres
        clear hV hres
        cases s
        all_goals
          go_wp2
          go_ret
          exact ⟨ret_intF HE.out.symm, hB⟩
    · obtain ⟨m, rfl⟩ : ∃ m, k = m + 1 := ⟨k - 1, by omega⟩
      obtain ⟨b, o, rfl, _, hc⟩ := hr.at (i := m) (by omega)
      have hd := getD_lt h.digits m
      have hv := val_drop (ds := ds) (k := m) (by omega)
      have hge := val_ge_drop ds m (by omega)
      generalize ds.getD m 0 = d at *
      generalize val (ds.drop (m + 1)) = V at *
      have m0 : (0 : Int) ≤ (m : Int) := by omega
      have m1 : (m : Int) < (ds.length : Int) := by omega
      by_cases hbig : 281474976710656 ≤ V
      · have hres : R = rend s := by rw [← HR.out]; exact numb_rend s (by omega)
        have HE : Hid _ := hres
        have hb' : (281474976710656 : Int) ≤ (V : Int) := by omega
        clear hres hv hge
        go_wp2_with fail
        refine (refEnd s _).mono ?_; rintro e W1 ⟨rfl, hw1⟩
        rw [hw1]
        go_wp2
        go_ret
        exact ⟨by rw [HE.out]; rfl, hB⟩
      · have hb' : ¬ (281474976710656 : Int) ≤ (V : Int) := by omega
        obtain ⟨Z, eZ⟩ : ∃ Z, d + 65536 * V = Z := ⟨_, rfl⟩
        have w1 : IntKind.u64.wrap ((V : Int) * 65536) = (V : Int) * 65536 := by rw [IntKind.wrap_u64]; omega
        have w2 : IntKind.u64.wrap ((V : Int) * 65536 + (d : Int)) = (Z : Int) := by rw [IntKind.wrap_u64]; omega
        have e2 : Z < 18446744073709551616 := by omega
        rw [eZ] at hv
        have HV : Hid _ := hv
        have E2 : Hid _ := e2
        clear hv hge hbig hlt eZ e2
        go_wp2
        refine ⟨⟨m, ?_, ?_, ?_, ?_⟩, ?_⟩
        · omega
        · rfl
        · rw [HV.out]
        · rw [HV.out]; exact E2.out
        · simp [intOf]
/-- Without its lowest digit. -/
theorem RowF.tail {W : World} {b o cap : Nat} {ds : List Nat} (h : RowF W (some ⟨b, o, none⟩) cap ds) (hn : 0 < ds.length) : RowF W (some ⟨b, o + 1, none⟩) (cap - 1) (ds.drop 1) := by
  have hl : (ds.drop 1).length = ds.length - 1 := List.length_drop
  refine ⟨by rw [hl]; have := h.le; omega, by have := h.most; omega, fun d hd => h.digits d (List.mem_of_mem_drop hd), ?_⟩
  rcases h.cells with rfl | ⟨b', o', e, hlt, hc⟩
  · simp at hn
  · cases e
    refine .inr ⟨b, o + 1, rfl, hlt, fun i hi => ?_⟩
    rw [show o + 1 + i = o + (i + 1) from by omega, hc (i + 1) (by omega), List.getD_eq_getElem?_getD, List.getD_eq_getElem?_getD, List.getElem?_drop, Nat.add_comm 1 i]
/-- What a cell holds (a name that the walk does not open). -/
def rdv (w : World) (b o : Nat) : Value := (w.cell? ⟨b, o, none⟩).getD undef
theorem rdv_of {w : World} {b o : Nat} {v : Value} (h : w.cell? ⟨b, o, none⟩ = some v) : w.cell? ⟨b, o, none⟩ = some (rdv w b o) := by unfold rdv; rw [h]; rfl
/-- Two boxes that are read, and one that is written. -/
def BoxS (w : World) (s t : Bool) (x y : Value) (W : World) : Prop :=
  w.heap.size + 1 + 1 < W.heap.size ∧ W.cell? ⟨w.heap.size, 0, none⟩ = some (.bool s) ∧ W.cell? ⟨w.heap.size, 1, none⟩ = some x ∧ W.cell? ⟨w.heap.size + 1, 0, none⟩ = some (.bool t) ∧ W.cell? ⟨w.heap.size + 1, 1, none⟩ = some y ∧
  W.cell? ⟨w.heap.size + 1 + 1, 0, none⟩ = some (rdv W (w.heap.size + 1 + 1) 0) ∧ W.cell? ⟨w.heap.size + 1 + 1, 1, none⟩ = some (rdv W (w.heap.size + 1 + 1) 1) ∧ W.frozen? ⟨w.heap.size + 1 + 1, 0, none⟩ = false ∧ W.frozen? ⟨w.heap.size + 1 + 1, 1, none⟩ = false ∧ Below w.heap.size w W
theorem BoxS.start (w : World) (s t : Bool) (x y z0 z1 : Value) (T : TypeId) : BoxS w s t x y (((w.alloc (.cells #[.bool s, x] T)).alloc (.cells #[.bool t, y] T)).alloc (.cells #[z0, z1] T)).drew :=
  ⟨by simp, by simp [go_sem], by simp [go_sem], by simp [go_sem], by simp [go_sem], rdv_of (v := z0) (by simp [go_sem]), rdv_of (v := z1) (by simp [go_sem]), by simp [go_sem], by simp [go_sem], ((((Below.refl _ _).alloc (Nat.le_refl _) _).alloc (by simp) _).alloc (by simp; omega) _).drew⟩
theorem BoxS.keep {w W W1 : World} {s t : Bool} {x y : Value} (hb : Below W.heap.size W W1) (h : BoxS w s t x y W) : BoxS w s t x y W1 := by
  obtain ⟨h0, h1, h2, h3, h4, h5, h6, h7, h8, h9⟩ := h
  have kc : ∀ {b o v}, b < W.heap.size → W.cell? ⟨b, o, none⟩ = some v → W1.cell? ⟨b, o, none⟩ = some v := fun hb' h => (hb.cell (p := ⟨_, _, none⟩) hb').trans h
  have kf : ∀ {b o v}, b < W.heap.size → W.frozen? ⟨b, o, none⟩ = v → W1.frozen? ⟨b, o, none⟩ = v := fun hb' h => (hb.frozen (p := ⟨_, _, none⟩) hb').trans h
  exact ⟨Nat.lt_of_lt_of_le h0 hb.size, kc (by omega) h1, kc (by omega) h2, kc (by omega) h3, kc (by omega) h4, rdv_of (kc (by omega) h5), rdv_of (kc (by omega) h6), kf (by omega) h7, kf (by omega) h8, h9.trans (hb.mono (by omega))⟩
theorem BoxS.set {w W : World} {s t : Bool} {x y : Value} (h : BoxS w s t x y W) (p q : Value) : BoxS w s t x y ((W.setCell ⟨w.heap.size + 1 + 1, 0, none⟩ p).setCell ⟨w.heap.size + 1 + 1, 1, none⟩ q) := by
  obtain ⟨h0, h1, h2, h3, h4, h5, h6, h7, h8, h9⟩ := h
  have ko : ∀ {b o v}, b ≠ w.heap.size + 1 + 1 → W.cell? ⟨b, o, none⟩ = some v → ((W.setCell ⟨w.heap.size + 1 + 1, 0, none⟩ p).setCell ⟨w.heap.size + 1 + 1, 1, none⟩ q).cell? ⟨b, o, none⟩ = some v := by
    intro b o v hb hv
    rw [World.cell?_setCell_other _ _ _ _ (fun e => hb (by cases e; rfl)), World.cell?_setCell_other _ _ _ _ (fun e => hb (by cases e; rfl))]; exact hv
  obtain ⟨t0, t1⟩ := two_newD (x := p) (y := q) h5 h6
  exact ⟨by simpa [World.setCell] using h0, ko (by omega) h1, ko (by omega) h2, ko (by omega) h3, ko (by omega) h4, rdv_of t0, rdv_of t1, by rw [World.frozen?_setCell, World.frozen?_setCell]; exact h7, by rw [World.frozen?_setCell, World.frozen?_setCell]; exact h8, (h9.setCell (by simp; omega) _).setCell (by simp; omega) _⟩
theorem two_back {W : World} {b : Nat} {x y u0 u1 : Value} (h0 : ((W.setCell ⟨b, 0, none⟩ x).setCell ⟨b, 1, none⟩ y).cell? ⟨b, 0, none⟩ = some u0) (h1 : ((W.setCell ⟨b, 0, none⟩ x).setCell ⟨b, 1, none⟩ y).cell? ⟨b, 1, none⟩ = some u1) :
    ((W.setCell ⟨b, 0, none⟩ x).setCell ⟨b, 1, none⟩ y).cell? ⟨b, 0, none⟩ = some x ∧ ((W.setCell ⟨b, 0, none⟩ x).setCell ⟨b, 1, none⟩ y).cell? ⟨b, 1, none⟩ = some y := by
  obtain ⟨_, k0⟩ := set_back h0
  obtain ⟨_, k0⟩ := set_back k0
  obtain ⟨_, k1⟩ := set_back h1
  obtain ⟨_, k1⟩ := set_back k1
  exact two_newD k0 k1
/-- A sign and a size. -/
def sgn (s : Bool) (n : Nat) : Int := if s then -(n : Int) else (n : Int)
theorem BoxS.drew {w W : World} {s t : Bool} {x y : Value} (h : BoxS w s t x y W) : BoxS w s t x y W.drew := h.keep (Below.refl _ _).drew
theorem BoxS.start0 (w : World) (s t : Bool) (x y z0 z1 : Value) (T : TypeId) : BoxS w s t x y (((w.alloc (.cells #[.bool s, x] T)).alloc (.cells #[.bool t, y] T)).alloc (.cells #[z0, z1] T)) :=
  ⟨by simp, by simp [go_sem], by simp [go_sem], by simp [go_sem], by simp [go_sem], rdv_of (v := z0) (by simp [go_sem]), rdv_of (v := z1) (by simp [go_sem]), by simp [go_sem], by simp [go_sem], (((Below.refl _ _).alloc (Nat.le_refl _) _).alloc (by simp) _).alloc (by simp; omega) _⟩
set_option maxHeartbeats 4000000 in
theorem refPlusSameF (a b : Option Addr) (ca cb : Nat) (xs ys : List Nat) (w : World) (h : RowF w a ca xs) (k : RowF w b cb ys) (lx : xs.length ≤ 100) (ly : ys.length ≤ 100) :
    Calls Try.prog 54 #[.agg #[.bool false, .slice a xs.length ca], .agg #[.bool false, .slice b ys.length cb]] w fun e w' =>
      (∃ s c cc rs, e = .returned (.agg #[.bool s, .slice c rs.length cc]) ∧ RowF w' c cc rs ∧ sgn s (val rs) = sgn false (val xs) + sgn false (val ys) ∧ Trim rs ∧ rs.length ≤ xs.length + ys.length + 1 ∧ Fresh w.heap.size c) ∧ Below w.heap.size w w' := by
  have hst := BoxS.start w false false (.slice a xs.length ca) (.slice b ys.length cb) (.bool false) (.slice none 0 0) 79
  go_enter Try.func54, Try.ntmps54
  go_wp2
  unfold BoxS at hst
  go_region_held3 (fun W => w.heap.size + 1 + 1 < W.heap.size ∧ W.cell? ⟨w.heap.size, 0, none⟩ = some (.bool false) ∧ W.cell? ⟨w.heap.size, 1, none⟩ = some (.slice a xs.length ca) ∧ W.cell? ⟨w.heap.size + 1, 0, none⟩ = some (.bool false) ∧ W.cell? ⟨w.heap.size + 1, 1, none⟩ = some (.slice b ys.length cb) ∧
      W.cell? ⟨w.heap.size + 1 + 1, 0, none⟩ = some (rdv W (w.heap.size + 1 + 1) 0) ∧ W.cell? ⟨w.heap.size + 1 + 1, 1, none⟩ = some (rdv W (w.heap.size + 1 + 1) 1) ∧ W.frozen? ⟨w.heap.size + 1 + 1, 0, none⟩ = false ∧ W.frozen? ⟨w.heap.size + 1 + 1, 1, none⟩ = false ∧ Below w.heap.size w W)
    (first | assumption | exact BoxS.keep (by assumption) (by assumption) | exact BoxS.set (by assumption) _ _)
    ((go_at_call 61; refine (refSum a b ca cb xs ys _ (h.keep (by go_split_ands; assumption)) (k.keep (by go_split_ands; assumption)) lx ly).mono ?_; rintro e w1 ⟨⟨c, cc, rs, rfl, hrow, hv, ht, hl, hfr⟩, bel1⟩))
  rename_i hH
  obtain ⟨t0, t1⟩ := two_back hH.2.2.2.2.2.1 hH.2.2.2.2.2.2.1
  have hB := hH.2.2.2.2.2.2.2.2.2
  have hz := hst.1
  have hrow2 := (hrow.store hfr (p := ⟨w.heap.size + 1 + 1, 0, none⟩) hz (.bool false)).store hfr (p := ⟨w.heap.size + 1 + 1, 1, none⟩) hz (.slice c rs.length cc)
  have hfr2 : Fresh w.heap.size c := fun x hx => by have := hfr x hx; omega
  clear hH hfr
  go_wp2
  refine bodyPost_ret (v := .agg #[.bool false, .slice c rs.length cc]) ?_ rfl ⟨⟨false, c, cc, rs, rfl, hrow2, by rw [hv]; simp [sgn]; try omega, ht, by omega, hfr2⟩, hB⟩
  simp [results, Try.results54, go_sem, t0, t1]
set_option maxHeartbeats 4000000 in
theorem refPlusSameT (a b : Option Addr) (ca cb : Nat) (xs ys : List Nat) (w : World) (h : RowF w a ca xs) (k : RowF w b cb ys) (lx : xs.length ≤ 100) (ly : ys.length ≤ 100) :
    Calls Try.prog 54 #[.agg #[.bool true, .slice a xs.length ca], .agg #[.bool true, .slice b ys.length cb]] w fun e w' =>
      (∃ s c cc rs, e = .returned (.agg #[.bool s, .slice c rs.length cc]) ∧ RowF w' c cc rs ∧ sgn s (val rs) = sgn true (val xs) + sgn true (val ys) ∧ Trim rs ∧ rs.length ≤ xs.length + ys.length + 1 ∧ Fresh w.heap.size c) ∧ Below w.heap.size w w' := by
  have hst := BoxS.start w true true (.slice a xs.length ca) (.slice b ys.length cb) (.bool false) (.slice none 0 0) 79
  go_enter Try.func54, Try.ntmps54
  go_wp2
  unfold BoxS at hst
  go_region_held3 (fun W => w.heap.size + 1 + 1 < W.heap.size ∧ W.cell? ⟨w.heap.size, 0, none⟩ = some (.bool true) ∧ W.cell? ⟨w.heap.size, 1, none⟩ = some (.slice a xs.length ca) ∧ W.cell? ⟨w.heap.size + 1, 0, none⟩ = some (.bool true) ∧ W.cell? ⟨w.heap.size + 1, 1, none⟩ = some (.slice b ys.length cb) ∧
      W.cell? ⟨w.heap.size + 1 + 1, 0, none⟩ = some (rdv W (w.heap.size + 1 + 1) 0) ∧ W.cell? ⟨w.heap.size + 1 + 1, 1, none⟩ = some (rdv W (w.heap.size + 1 + 1) 1) ∧ W.frozen? ⟨w.heap.size + 1 + 1, 0, none⟩ = false ∧ W.frozen? ⟨w.heap.size + 1 + 1, 1, none⟩ = false ∧ Below w.heap.size w W)
    (first | assumption | exact BoxS.keep (by assumption) (by assumption) | exact BoxS.set (by assumption) _ _)
    ((go_at_call 61; refine (refSum a b ca cb xs ys _ (h.keep (by go_split_ands; assumption)) (k.keep (by go_split_ands; assumption)) lx ly).mono ?_; rintro e w1 ⟨⟨c, cc, rs, rfl, hrow, hv, ht, hl, hfr⟩, bel1⟩))
  rename_i hH
  obtain ⟨t0, t1⟩ := two_back hH.2.2.2.2.2.1 hH.2.2.2.2.2.2.1
  have hB := hH.2.2.2.2.2.2.2.2.2
  have hz := hst.1
  have hrow2 := (hrow.store hfr (p := ⟨w.heap.size + 1 + 1, 0, none⟩) hz (.bool true)).store hfr (p := ⟨w.heap.size + 1 + 1, 1, none⟩) hz (.slice c rs.length cc)
  have hfr2 : Fresh w.heap.size c := fun x hx => by have := hfr x hx; omega
  clear hH hfr
  go_wp2
  refine bodyPost_ret (v := .agg #[.bool true, .slice c rs.length cc]) ?_ rfl ⟨⟨true, c, cc, rs, rfl, hrow2, by rw [hv]; simp [sgn]; try omega, ht, by omega, hfr2⟩, hB⟩
  simp [results, Try.results54, go_sem, t0, t1]
set_option maxHeartbeats 4000000 in
theorem refPlusDiffF (a b : Option Addr) (ca cb : Nat) (xs ys : List Nat) (w : World) (h : RowF w a ca xs) (k : RowF w b cb ys) (tx : Trim xs) (ty : Trim ys) (lx : xs.length ≤ 100) (ly : ys.length ≤ 100) :
    Calls Try.prog 54 #[.agg #[.bool false, .slice a xs.length ca], .agg #[.bool true, .slice b ys.length cb]] w fun e w' =>
      (∃ s c cc rs, e = .returned (.agg #[.bool s, .slice c rs.length cc]) ∧ RowF w' c cc rs ∧ sgn s (val rs) = sgn false (val xs) + sgn true (val ys) ∧ Trim rs ∧ rs.length ≤ xs.length + ys.length + 1 ∧ Fresh w.heap.size c) ∧ Below w.heap.size w w' := by
  have hst := BoxS.start0 w false true (.slice a xs.length ca) (.slice b ys.length cb) (.bool false) (.slice none 0 0) 79
  go_enter Try.func54, Try.ntmps54
  go_wp2_with fail
  refine (refMore b a cb ca ys xs _ (k.keep hst.2.2.2.2.2.2.2.2.2) (h.keep hst.2.2.2.2.2.2.2.2.2) ty tx).mono ?_
  rintro e w0 ⟨rfl, bel0⟩
  have hst1 := BoxS.keep bel0 hst
  have hst2 := hst1.drew
  clear hst bel0
  have hB0 := hst1.2.2.2.2.2.2.2.2.2
  have c0 := hst1.2.1; have c1 := hst1.2.2.1; have c2 := hst1.2.2.2.1; have c3 := hst1.2.2.2.2.1
  by_cases hlt : val xs < val ys
  · have hd : decide (val xs < val ys) = true := decide_eq_true hlt
    rw [hd]
    clear hd
    go_wp2
    unfold BoxS at hst2
    clear c0 c1 c2 c3
    go_region_held3 (fun W => w.heap.size + 1 + 1 < W.heap.size ∧ W.cell? ⟨w.heap.size, 0, none⟩ = some (.bool false) ∧ W.cell? ⟨w.heap.size, 1, none⟩ = some (.slice a xs.length ca) ∧ W.cell? ⟨w.heap.size + 1, 0, none⟩ = some (.bool true) ∧ W.cell? ⟨w.heap.size + 1, 1, none⟩ = some (.slice b ys.length cb) ∧
      W.cell? ⟨w.heap.size + 1 + 1, 0, none⟩ = some (rdv W (w.heap.size + 1 + 1) 0) ∧ W.cell? ⟨w.heap.size + 1 + 1, 1, none⟩ = some (rdv W (w.heap.size + 1 + 1) 1) ∧ W.frozen? ⟨w.heap.size + 1 + 1, 0, none⟩ = false ∧ W.frozen? ⟨w.heap.size + 1 + 1, 1, none⟩ = false ∧ Below w.heap.size w W)
      (first | assumption | exact BoxS.keep (by assumption) (by assumption) | exact BoxS.set (by assumption) _ _)
      ((go_at_call 63; refine (refLess b a cb ca ys xs _ (k.keep (by go_split_ands; assumption)) (h.keep (by go_split_ands; assumption)) ly tx (by omega)).mono ?_; rintro e w1 ⟨⟨c, cc, rs, rfl, hrow, hv, ht, hl, hfr⟩, bel1⟩))
    rename_i hH
    obtain ⟨t0, t1⟩ := two_back hH.2.2.2.2.2.1 hH.2.2.2.2.2.2.1
    have hB := hH.2.2.2.2.2.2.2.2.2
    have hz := hst2.1
    have hrow2 := (hrow.store hfr (p := ⟨w.heap.size + 1 + 1, 0, none⟩) hz (.bool true)).store hfr (p := ⟨w.heap.size + 1 + 1, 1, none⟩) hz (.slice c rs.length cc)
    have hfr2 : Fresh w.heap.size c := fun x hx => by have := hfr x hx; omega
    clear hH hfr
    go_wp2
    refine bodyPost_ret (v := .agg #[.bool true, .slice c rs.length cc]) ?_ rfl ⟨⟨true, c, cc, rs, rfl, hrow2, by simp [sgn]; omega, ht, by omega, hfr2⟩, hB⟩
    simp [results, Try.results54, go_sem, t0, t1]
  · have hd : decide (val xs < val ys) = false := decide_eq_false hlt
    rw [hd]
    clear hd
    go_wp2
    unfold BoxS at hst2
    clear c0 c1 c2 c3
    go_region_held3 (fun W => w.heap.size + 1 + 1 < W.heap.size ∧ W.cell? ⟨w.heap.size, 0, none⟩ = some (.bool false) ∧ W.cell? ⟨w.heap.size, 1, none⟩ = some (.slice a xs.length ca) ∧ W.cell? ⟨w.heap.size + 1, 0, none⟩ = some (.bool true) ∧ W.cell? ⟨w.heap.size + 1, 1, none⟩ = some (.slice b ys.length cb) ∧
      W.cell? ⟨w.heap.size + 1 + 1, 0, none⟩ = some (rdv W (w.heap.size + 1 + 1) 0) ∧ W.cell? ⟨w.heap.size + 1 + 1, 1, none⟩ = some (rdv W (w.heap.size + 1 + 1) 1) ∧ W.frozen? ⟨w.heap.size + 1 + 1, 0, none⟩ = false ∧ W.frozen? ⟨w.heap.size + 1 + 1, 1, none⟩ = false ∧ Below w.heap.size w W)
      (first | assumption | exact BoxS.keep (by assumption) (by assumption) | exact BoxS.set (by assumption) _ _)
      ((go_at_call 63; refine (refLess a b ca cb xs ys _ (h.keep (by go_split_ands; assumption)) (k.keep (by go_split_ands; assumption)) lx ty (by omega)).mono ?_; rintro e w1 ⟨⟨c, cc, rs, rfl, hrow, hv, ht, hl, hfr⟩, bel1⟩))
    rename_i hH
    obtain ⟨t0, t1⟩ := two_back hH.2.2.2.2.2.1 hH.2.2.2.2.2.2.1
    have hB := hH.2.2.2.2.2.2.2.2.2
    have hz := hst2.1
    have hrow2 := (hrow.store hfr (p := ⟨w.heap.size + 1 + 1, 0, none⟩) hz (.bool false)).store hfr (p := ⟨w.heap.size + 1 + 1, 1, none⟩) hz (.slice c rs.length cc)
    have hfr2 : Fresh w.heap.size c := fun x hx => by have := hfr x hx; omega
    clear hH hfr
    go_wp2
    refine bodyPost_ret (v := .agg #[.bool false, .slice c rs.length cc]) ?_ rfl ⟨⟨false, c, cc, rs, rfl, hrow2, by simp [sgn]; omega, ht, by omega, hfr2⟩, hB⟩
    simp [results, Try.results54, go_sem, t0, t1]
set_option maxHeartbeats 4000000 in
theorem refPlusDiffT (a b : Option Addr) (ca cb : Nat) (xs ys : List Nat) (w : World) (h : RowF w a ca xs) (k : RowF w b cb ys) (tx : Trim xs) (ty : Trim ys) (lx : xs.length ≤ 100) (ly : ys.length ≤ 100) :
    Calls Try.prog 54 #[.agg #[.bool true, .slice a xs.length ca], .agg #[.bool false, .slice b ys.length cb]] w fun e w' =>
      (∃ s c cc rs, e = .returned (.agg #[.bool s, .slice c rs.length cc]) ∧ RowF w' c cc rs ∧ sgn s (val rs) = sgn true (val xs) + sgn false (val ys) ∧ Trim rs ∧ rs.length ≤ xs.length + ys.length + 1 ∧ Fresh w.heap.size c) ∧ Below w.heap.size w w' := by
  have hst := BoxS.start0 w true false (.slice a xs.length ca) (.slice b ys.length cb) (.bool false) (.slice none 0 0) 79
  go_enter Try.func54, Try.ntmps54
  go_wp2_with fail
  refine (refMore b a cb ca ys xs _ (k.keep hst.2.2.2.2.2.2.2.2.2) (h.keep hst.2.2.2.2.2.2.2.2.2) ty tx).mono ?_
  rintro e w0 ⟨rfl, bel0⟩
  have hst1 := BoxS.keep bel0 hst
  have hst2 := hst1.drew
  clear hst bel0
  have hB0 := hst1.2.2.2.2.2.2.2.2.2
  have c0 := hst1.2.1; have c1 := hst1.2.2.1; have c2 := hst1.2.2.2.1; have c3 := hst1.2.2.2.2.1
  by_cases hlt : val xs < val ys
  · have hd : decide (val xs < val ys) = true := decide_eq_true hlt
    rw [hd]
    clear hd
    go_wp2
    unfold BoxS at hst2
    clear c0 c1 c2 c3
    go_region_held3 (fun W => w.heap.size + 1 + 1 < W.heap.size ∧ W.cell? ⟨w.heap.size, 0, none⟩ = some (.bool true) ∧ W.cell? ⟨w.heap.size, 1, none⟩ = some (.slice a xs.length ca) ∧ W.cell? ⟨w.heap.size + 1, 0, none⟩ = some (.bool false) ∧ W.cell? ⟨w.heap.size + 1, 1, none⟩ = some (.slice b ys.length cb) ∧
      W.cell? ⟨w.heap.size + 1 + 1, 0, none⟩ = some (rdv W (w.heap.size + 1 + 1) 0) ∧ W.cell? ⟨w.heap.size + 1 + 1, 1, none⟩ = some (rdv W (w.heap.size + 1 + 1) 1) ∧ W.frozen? ⟨w.heap.size + 1 + 1, 0, none⟩ = false ∧ W.frozen? ⟨w.heap.size + 1 + 1, 1, none⟩ = false ∧ Below w.heap.size w W)
      (first | assumption | exact BoxS.keep (by assumption) (by assumption) | exact BoxS.set (by assumption) _ _)
      ((go_at_call 63; refine (refLess b a cb ca ys xs _ (k.keep (by go_split_ands; assumption)) (h.keep (by go_split_ands; assumption)) ly tx (by omega)).mono ?_; rintro e w1 ⟨⟨c, cc, rs, rfl, hrow, hv, ht, hl, hfr⟩, bel1⟩))
    rename_i hH
    obtain ⟨t0, t1⟩ := two_back hH.2.2.2.2.2.1 hH.2.2.2.2.2.2.1
    have hB := hH.2.2.2.2.2.2.2.2.2
    have hz := hst2.1
    have hrow2 := (hrow.store hfr (p := ⟨w.heap.size + 1 + 1, 0, none⟩) hz (.bool false)).store hfr (p := ⟨w.heap.size + 1 + 1, 1, none⟩) hz (.slice c rs.length cc)
    have hfr2 : Fresh w.heap.size c := fun x hx => by have := hfr x hx; omega
    clear hH hfr
    go_wp2
    refine bodyPost_ret (v := .agg #[.bool false, .slice c rs.length cc]) ?_ rfl ⟨⟨false, c, cc, rs, rfl, hrow2, by simp [sgn]; omega, ht, by omega, hfr2⟩, hB⟩
    simp [results, Try.results54, go_sem, t0, t1]
  · have hd : decide (val xs < val ys) = false := decide_eq_false hlt
    rw [hd]
    clear hd
    go_wp2
    unfold BoxS at hst2
    clear c0 c1 c2 c3
    go_region_held3 (fun W => w.heap.size + 1 + 1 < W.heap.size ∧ W.cell? ⟨w.heap.size, 0, none⟩ = some (.bool true) ∧ W.cell? ⟨w.heap.size, 1, none⟩ = some (.slice a xs.length ca) ∧ W.cell? ⟨w.heap.size + 1, 0, none⟩ = some (.bool false) ∧ W.cell? ⟨w.heap.size + 1, 1, none⟩ = some (.slice b ys.length cb) ∧
      W.cell? ⟨w.heap.size + 1 + 1, 0, none⟩ = some (rdv W (w.heap.size + 1 + 1) 0) ∧ W.cell? ⟨w.heap.size + 1 + 1, 1, none⟩ = some (rdv W (w.heap.size + 1 + 1) 1) ∧ W.frozen? ⟨w.heap.size + 1 + 1, 0, none⟩ = false ∧ W.frozen? ⟨w.heap.size + 1 + 1, 1, none⟩ = false ∧ Below w.heap.size w W)
      (first | assumption | exact BoxS.keep (by assumption) (by assumption) | exact BoxS.set (by assumption) _ _)
      ((go_at_call 63; refine (refLess a b ca cb xs ys _ (h.keep (by go_split_ands; assumption)) (k.keep (by go_split_ands; assumption)) lx ty (by omega)).mono ?_; rintro e w1 ⟨⟨c, cc, rs, rfl, hrow, hv, ht, hl, hfr⟩, bel1⟩))
    rename_i hH
    obtain ⟨t0, t1⟩ := two_back hH.2.2.2.2.2.1 hH.2.2.2.2.2.2.1
    have hB := hH.2.2.2.2.2.2.2.2.2
    have hz := hst2.1
    have hrow2 := (hrow.store hfr (p := ⟨w.heap.size + 1 + 1, 0, none⟩) hz (.bool true)).store hfr (p := ⟨w.heap.size + 1 + 1, 1, none⟩) hz (.slice c rs.length cc)
    have hfr2 : Fresh w.heap.size c := fun x hx => by have := hfr x hx; omega
    clear hH hfr
    go_wp2
    refine bodyPost_ret (v := .agg #[.bool true, .slice c rs.length cc]) ?_ rfl ⟨⟨true, c, cc, rs, rfl, hrow2, by simp [sgn]; omega, ht, by omega, hfr2⟩, hB⟩
    simp [results, Try.results54, go_sem, t0, t1]
theorem refPlus (s t : Bool) (a b : Option Addr) (ca cb : Nat) (xs ys : List Nat) (w : World) (h : RowF w a ca xs) (k : RowF w b cb ys) (tx : Trim xs) (ty : Trim ys) (lx : xs.length ≤ 100) (ly : ys.length ≤ 100) :
    Calls Try.prog 54 #[.agg #[.bool s, .slice a xs.length ca], .agg #[.bool t, .slice b ys.length cb]] w fun e w' =>
      (∃ u c cc rs, e = .returned (.agg #[.bool u, .slice c rs.length cc]) ∧ RowF w' c cc rs ∧ sgn u (val rs) = sgn s (val xs) + sgn t (val ys) ∧ Trim rs ∧ rs.length ≤ xs.length + ys.length + 1 ∧ Fresh w.heap.size c) ∧ Below w.heap.size w w' := by
  cases s <;> cases t
  · exact refPlusSameF a b ca cb xs ys w h k lx ly
  · exact refPlusDiffF a b ca cb xs ys w h k tx ty lx ly
  · exact refPlusDiffT a b ca cb xs ys w h k tx ty lx ly
  · exact refPlusSameT a b ca cb xs ys w h k lx ly
/-- Bit by bit: the greatest number whose f is not above N. -/
def grGo (f : Nat → Nat) (N : Nat) : Nat → Nat → Nat
  | 0, acc => acc
  | k + 1, acc => grGo f N k (if f (acc + 2 ^ k) ≤ N then acc + 2 ^ k else acc)
/-- What the loop holds. -/
def GrInv (f : Nat → Nat) (N acc k : Nat) : Prop := k ≤ 64 ∧ acc % 2 ^ k = 0 ∧ acc + 2 ^ k ≤ 18446744073709551616 ∧ grGo f N k acc = grGo f N 64 0
theorem GrInv.start (f : Nat → Nat) (N : Nat) : GrInv f N 0 64 := ⟨Nat.le_refl _, by simp, by decide, rfl⟩
theorem numb_sgn (s : Bool) (n : Nat) : numb (n : Int) s = sat (sgn s n) := by cases s <;> rfl
theorem refOf (n : Int) (hn : I64 n) (w : World) :
    Calls Try.prog 55 #[.int .i64 n] w fun e w' =>
      (∃ c cc rs, e = .returned (.agg #[.bool (decide (n < 0)), .slice c rs.length cc]) ∧ RowF w' c cc rs ∧ sgn (decide (n < 0)) (val rs) = n ∧ ((val rs : Nat) : Int) = mag n ∧ Trim rs ∧ rs.length ≤ 4 ∧ Fresh w.heap.size c) ∧ Below w.heap.size w w' := by
  obtain ⟨h1, h2⟩ := hn
  by_cases h : n < 0
  · obtain ⟨m, rfl⟩ : ∃ m : Nat, n = -(m : Int) := ⟨n.natAbs, by omega⟩
    refine (refOfN m (by omega) (by omega) w).mono ?_
    rintro e w' ⟨⟨c, cc, rs, rfl, hr, hv, ht, hl, hf⟩, bel⟩
    rw [decide_eq_true h]
    exact ⟨⟨c, cc, rs, rfl, hr, by rw [hv]; rfl, by unfold mag; rw [if_pos h]; omega, ht, hl, hf⟩, bel⟩
  · obtain ⟨m, rfl⟩ : ∃ m : Nat, n = (m : Int) := ⟨n.natAbs, by omega⟩
    refine (refOfP m (by omega) w).mono ?_
    rintro e w' ⟨⟨c, cc, rs, rfl, hr, hv, ht, hl, hf⟩, bel⟩
    rw [decide_eq_false h]
    exact ⟨⟨c, cc, rs, rfl, hr, by rw [hv]; rfl, by unfold mag; rw [if_neg h]; omega, ht, hl, hf⟩, bel⟩
set_option maxHeartbeats 1000000 in
theorem refAdd (a b : Int) (ha : I64 a) (hb : I64 b) (w : World) :
    Calls Try.prog 40 #[.int .i64 a, .int .i64 b] w fun e w' => e = .returned (.int .i64 (sat (a + b))) ∧ Below w.heap.size w w' := by
  obtain ⟨R, hR⟩ : ∃ R, sat (a + b) = R := ⟨_, rfl⟩
  have HR : Hid _ := hR
  rw [hR]
  clear hR
  go_enter Try.func40, Try.ntmps40
  go_wp2_with fail
  refine (refOf a ha _).mono ?_; rintro e w1 ⟨⟨c1, k1, xs, rfl, r1, v1, m1, t1, l1, f1⟩, b1⟩
  generalize decide (a < 0) = s at *
  go_wp2_with fail
  refine (refOf b hb _).mono ?_; rintro e w2 ⟨⟨c2, k2, ys, rfl, r2, v2, m2, t2, l2, f2⟩, b2⟩
  generalize decide (b < 0) = t at *
  have r1' := r1.keep b2
  have V1 : Hid _ := v1
  have V2 : Hid _ := v2
  clear r1 v1 v2 m1 m2
  go_wp2_with fail
  refine (refPlus s t c1 c2 k1 k2 xs ys _ r1' r2 t1 t2 (by omega) (by omega)).mono ?_; rintro e w3 ⟨⟨u, c3, k3, zs, rfl, r3, v3, t3, l3, f3⟩, b3⟩
  rw [V1.out, V2.out] at v3
  have V3 : Hid _ := v3
  clear v3
  go_wp2_with fail
  refine (refInt u c3 k3 zs _ r3).mono ?_; rintro e w4 ⟨rfl, b4⟩
  rw [numb_sgn, V3.out, HR.out]
  go_wp2
  go_ret
  exact ⟨rfl, btransF (btransF (btransF b1 b2) b3) b4⟩
/-- A box that is read. -/
def One (b : World) (s : Bool) (x : Value) (W : World) : Prop :=
  b.heap.size < W.heap.size ∧ W.cell? ⟨b.heap.size, 0, none⟩ = some (.bool s) ∧ W.cell? ⟨b.heap.size, 1, none⟩ = some x ∧ Below b.heap.size b W
theorem One.keep {w W W1 : World} {s : Bool} {x : Value} (hb : Below W.heap.size W W1) (h : One w s x W) : One w s x W1 :=
  ⟨Nat.lt_of_lt_of_le h.1 hb.size, keepCell hb h.1 h.2.1, keepCell hb h.1 h.2.2.1, h.2.2.2.trans (hb.mono (by have := h.1; omega))⟩
theorem One.start (w : World) (s : Bool) (x : Value) (T : TypeId) : One w s x (w.alloc (.cells #[.bool s, x] T)).drew :=
  ⟨by simp, by simp [go_sem], by simp [go_sem], ((Below.refl _ _).alloc (Nat.le_refl _) _).drew⟩
theorem sgn_not (t : Bool) (n : Nat) : sgn (!t) n = -sgn t n := by cases t <;> simp [sgn]
set_option maxHeartbeats 1000000 in
theorem refSub (a b : Int) (ha : I64 a) (hb : I64 b) (w : World) :
    Calls Try.prog 49 #[.int .i64 a, .int .i64 b] w fun e w' => e = .returned (.int .i64 (sat (a - b))) ∧ Below w.heap.size w w' := by
  obtain ⟨R, hR⟩ : ∃ R, sat (a - b) = R := ⟨_, rfl⟩
  have HR : Hid _ := hR
  rw [hR]
  clear hR
  go_enter Try.func49, Try.ntmps49
  go_wp2_with fail
  refine (refOf b hb _).mono ?_; rintro e w1 ⟨⟨c1, k1, ys, rfl, r1, v1, m1, t1, l1, f1⟩, b1⟩
  generalize decide (b < 0) = t at *
  have V1 : Hid _ := v1
  clear v1 m1
  obtain ⟨s, hs⟩ : ∃ s, (!t) = s := ⟨_, rfl⟩
  have HS : Hid _ := hs
  have hst := One.start w1 s (.slice c1 ys.length k1) 79
  clear f1
  go_wp2_with fail
  try simp only [hs]
  clear hs
  unfold One at hst
  go_region_held3 (fun W => w1.heap.size < W.heap.size ∧ W.cell? ⟨w1.heap.size, 0, none⟩ = some (.bool s) ∧ W.cell? ⟨w1.heap.size, 1, none⟩ = some (.slice c1 ys.length k1) ∧ Below w1.heap.size w1 W)
    (first | assumption | exact One.keep (by assumption) (by assumption))
    (first
      | (go_at_call 55; refine (refOf a ha _).mono ?_; rintro e w2 ⟨⟨c2, k2, xs, rfl, r2, v2, m2, t2, l2, f2⟩, b2⟩)
      | (go_at_call 54; refine (refPlus _ s c2 c1 k2 k1 xs ys _ r2 (r1.keep (by go_split_ands; assumption)) t2 t1 (by omega) (by omega)).mono ?_; rintro e w3 ⟨⟨u, c3, k3, zs, rfl, r3, v3, t3, l3, f3⟩, b3⟩)
      | (go_at_call 53; refine (refInt u c3 k3 zs _ r3).mono ?_; rintro e w4 ⟨rfl, b4⟩))
  rename_i hH
  have hfin : numb ((val zs : Nat) : Int) u = R := by rw [numb_sgn, v3, v2, ← HS.out, sgn_not, V1.out, ← HR.out]; rfl
  have hB := btransF b1 hH.2.2.2
  rw [hfin]
  clear hH v2 m2 v3 b2 b3 b4 hst
  go_wp2
  go_ret
  exact ⟨rfl, hB⟩
set_option maxHeartbeats 2000000 in
theorem refVecPlus (a1 a2 a3 b1 b2 b3 : Int) (ha1 : I64 a1) (ha2 : I64 a2) (ha3 : I64 a3) (hb1 : I64 b1) (hb2 : I64 b2) (hb3 : I64 b3) (w : World) :
    Calls Try.prog 36 #[.agg #[.int .i64 a1, .int .i64 a2, .int .i64 a3], .agg #[.int .i64 b1, .int .i64 b2, .int .i64 b3]] w fun e w' =>
      e = .returned (.agg #[.int .i64 (sat (a1 + b1)), .int .i64 (sat (a2 + b2)), .int .i64 (sat (a3 + b3))]) ∧ Below w.heap.size w w' := by
  go_enter Try.func36, Try.ntmps36
  go_wp2
  go_region_held3 (fun w' => w.heap.size + 1 + 1 < w'.heap.size ∧ w'.cell? ⟨w.heap.size, 0, none⟩ = some (.int .i64 a1) ∧ w'.cell? ⟨w.heap.size, 1, none⟩ = some (.int .i64 a2) ∧ w'.cell? ⟨w.heap.size, 2, none⟩ = some (.int .i64 a3) ∧ w'.cell? ⟨w.heap.size + 1, 0, none⟩ = some (.int .i64 b1) ∧ w'.cell? ⟨w.heap.size + 1, 1, none⟩ = some (.int .i64 b2) ∧ w'.cell? ⟨w.heap.size + 1, 2, none⟩ = some (.int .i64 b3) ∧ w'.cell? ⟨w.heap.size + 1 + 1, 0, none⟩ = some (rdF w' (w.heap.size + 1 + 1) 0) ∧ w'.cell? ⟨w.heap.size + 1 + 1, 1, none⟩ = some (rdF w' (w.heap.size + 1 + 1) 1) ∧ w'.cell? ⟨w.heap.size + 1 + 1, 2, none⟩ = some (rdF w' (w.heap.size + 1 + 1) 2) ∧ w'.frozen? ⟨w.heap.size + 1 + 1, 0, none⟩ = false ∧ w'.frozen? ⟨w.heap.size + 1 + 1, 1, none⟩ = false ∧ w'.frozen? ⟨w.heap.size + 1 + 1, 2, none⟩ = false ∧ Below w.heap.size w w')
    (first | assumption | exact startE _ | exact keepE (by assumption) (by assumption) | exact setE _ _ _ (by assumption))
    ((go_at_call 40; refine (refAdd _ _ (by assumption) (by assumption) _).mono ?_; rintro e w1 ⟨rfl, bel1⟩))
  rename_i hH
  obtain ⟨r0, r1, r2⟩ := three_set hH.2.2.2.2.2.2.2.1 hH.2.2.2.2.2.2.2.2.1 hH.2.2.2.2.2.2.2.2.2.1
  have hB := hH.2.2.2.2.2.2.2.2.2.2.2.2.2
  clear hH
  go_wp2
  refine bodyPost_ret (v := .agg #[.int .i64 (sat (a1 + b1)), .int .i64 (sat (a2 + b2)), .int .i64 (sat (a3 + b3))]) ?_ rfl ⟨rfl, hB⟩
  simp [results, Try.results36, go_sem, r0, r1, r2]
set_option maxHeartbeats 2000000 in
theorem refVecMinus (a1 a2 a3 b1 b2 b3 : Int) (ha1 : I64 a1) (ha2 : I64 a2) (ha3 : I64 a3) (hb1 : I64 b1) (hb2 : I64 b2) (hb3 : I64 b3) (w : World) :
    Calls Try.prog 35 #[.agg #[.int .i64 a1, .int .i64 a2, .int .i64 a3], .agg #[.int .i64 b1, .int .i64 b2, .int .i64 b3]] w fun e w' =>
      e = .returned (.agg #[.int .i64 (sat (a1 - b1)), .int .i64 (sat (a2 - b2)), .int .i64 (sat (a3 - b3))]) ∧ Below w.heap.size w w' := by
  go_enter Try.func35, Try.ntmps35
  go_wp2
  go_region_held3 (fun w' => w.heap.size + 1 + 1 < w'.heap.size ∧ w'.cell? ⟨w.heap.size, 0, none⟩ = some (.int .i64 a1) ∧ w'.cell? ⟨w.heap.size, 1, none⟩ = some (.int .i64 a2) ∧ w'.cell? ⟨w.heap.size, 2, none⟩ = some (.int .i64 a3) ∧ w'.cell? ⟨w.heap.size + 1, 0, none⟩ = some (.int .i64 b1) ∧ w'.cell? ⟨w.heap.size + 1, 1, none⟩ = some (.int .i64 b2) ∧ w'.cell? ⟨w.heap.size + 1, 2, none⟩ = some (.int .i64 b3) ∧ w'.cell? ⟨w.heap.size + 1 + 1, 0, none⟩ = some (rdF w' (w.heap.size + 1 + 1) 0) ∧ w'.cell? ⟨w.heap.size + 1 + 1, 1, none⟩ = some (rdF w' (w.heap.size + 1 + 1) 1) ∧ w'.cell? ⟨w.heap.size + 1 + 1, 2, none⟩ = some (rdF w' (w.heap.size + 1 + 1) 2) ∧ w'.frozen? ⟨w.heap.size + 1 + 1, 0, none⟩ = false ∧ w'.frozen? ⟨w.heap.size + 1 + 1, 1, none⟩ = false ∧ w'.frozen? ⟨w.heap.size + 1 + 1, 2, none⟩ = false ∧ Below w.heap.size w w')
    (first | assumption | exact startE _ | exact keepE (by assumption) (by assumption) | exact setE _ _ _ (by assumption))
    ((go_at_call 49; refine (refSub _ _ (by assumption) (by assumption) _).mono ?_; rintro e w1 ⟨rfl, bel1⟩))
  rename_i hH
  obtain ⟨r0, r1, r2⟩ := three_set hH.2.2.2.2.2.2.2.1 hH.2.2.2.2.2.2.2.2.1 hH.2.2.2.2.2.2.2.2.2.1
  have hB := hH.2.2.2.2.2.2.2.2.2.2.2.2.2
  clear hH
  go_wp2
  refine bodyPost_ret (v := .agg #[.int .i64 (sat (a1 - b1)), .int .i64 (sat (a2 - b2)), .int .i64 (sat (a3 - b3))]) ?_ rfl ⟨rfl, hB⟩
  simp [results, Try.results35, go_sem, r0, r1, r2]
end Go.Proofs.Ytjjdclckkhddbaa
