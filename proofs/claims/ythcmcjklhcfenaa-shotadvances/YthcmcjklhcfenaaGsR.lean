/- Layer 1's own answers (embrasureref01): Add, Sub, VecPlus, VecMinus; joined out of the texts Ref. -/
import Derived.Test.YthcmcjklhcfenaaRows
import Derived.Test.YthcmcjklhcfenaaGsP
import Derived.WalkKit
import Derived.WalkSpells
import Derived.WalkLawsBesides
import Derived.LoopTactic
import Derived.BigQuiet
import Derived.Deep.QuietTactic
import Derived.Deep.OwnRows
import Derived.Deep.RegionHeld3
import Derived.Deep.DrawnRows
import Derived.Deep.AppendLies
import Derived.Deep.DeepCutAuto
import Derived.Deep.CutBlock
import Derived.Test.YthcmcjklhcfenaaGsF
namespace Go.Proofs.Ythcmcjklhcfenaa
open Go.RowKit
set_option linter.unusedVariables false
attribute [local go_sem ↓] Go.wp_at_zero Go.wp_at_succ

/-- The value of a row of digits, the lowest first. -/
def val : List Nat → Nat
  | [] => 0
  | d :: r => d + 65536 * val r
/-- A slice that holds these digits. -/
structure RowF (w : World) (a : Option Addr) (cap : Nat) (ds : List Nat) : Prop where
  le : ds.length ≤ cap
  most : cap ≤ maxLen
  digits : ∀ d ∈ ds, d < 65536
  cells : ds = [] ∨ ∃ b o, a = some ⟨b, o, none⟩ ∧ b < w.heap.size ∧ ∀ i, i < ds.length → w.cell? ⟨b, o + i, none⟩ = some (.int .u64 ((ds.getD i 0 : Nat) : Int))
theorem RowF.keep {W w1 : World} {a : Option Addr} {cap : Nat} {ds : List Nat} (h : RowF W a cap ds) (hb : Below W.heap.size W w1) : RowF w1 a cap ds := by
  refine ⟨h.le, h.most, h.digits, ?_⟩
  rcases h.cells with h | ⟨b, o, rfl, hlt, hc⟩
  · exact .inl h
  · exact .inr ⟨b, o, rfl, Nat.lt_of_lt_of_le hlt hb.size, fun i hi => (hb.cell (p := ⟨b, o + i, none⟩) hlt).trans (hc i hi)⟩
theorem RowF.at {w : World} {a : Option Addr} {cap : Nat} {ds : List Nat} (h : RowF w a cap ds) {i : Nat} (hi : i < ds.length) : ∃ b o, a = some ⟨b, o, none⟩ ∧ b < w.heap.size ∧ w.cell? ⟨b, o + i, none⟩ = some (.int .u64 ((ds.getD i 0 : Nat) : Int)) := by
  rcases h.cells with rfl | ⟨b, o, rfl, hlt, hc⟩
  · simp at hi
  · exact ⟨b, o, rfl, hlt, hc i hi⟩
/-- Without noughts at the end. -/
def Trim (ds : List Nat) : Prop := ds = [] ∨ ∃ r d, ds = r ++ [d] ∧ d ≠ 0
theorem take_snoc' {ds : List Nat} {n : Nat} (h : n < ds.length) : ds.take (n + 1) = ds.take n ++ [ds.getD n 0] := by
  rw [List.take_succ_eq_append_getElem h, List.getD_eq_getElem?_getD, List.getElem?_eq_getElem h]; rfl
theorem val_append (a b : List Nat) : val (a ++ b) = val a + 65536 ^ a.length * val b := by
  induction a with
  | nil => simp [val]
  | cons d r ih => simp only [List.cons_append, val, ih, List.length_cons, Nat.pow_succ]; rw [Nat.mul_add, ← Nat.mul_assoc, Nat.mul_comm 65536 (65536 ^ r.length)]; omega
theorem val_snoc0 (a : List Nat) : val (a ++ [0]) = val a := by rw [val_append]; simp [val]
/-- One is greater: the longer one, or by the highest digit that is unlike. -/
theorem val_lt (ds : List Nat) (h : ∀ d ∈ ds, d < 65536) : val ds < 65536 ^ ds.length := by
  induction ds with
  | nil => simp [val]
  | cons d r ih =>
    have h1 := ih fun x hx => h x (List.mem_cons_of_mem _ hx)
    have h2 := h d List.mem_cons_self
    simp only [val, List.length_cons, Nat.pow_succ]; omega
theorem pow_pos' (n : Nat) : 0 < 65536 ^ n := Nat.pow_pos (by decide)
theorem drop_cons {ds : List Nat} {k : Nat} (h : k < ds.length) : ds.drop k = ds.getD k 0 :: ds.drop (k + 1) := by
  rw [List.drop_eq_getElem_cons h, List.getD_eq_getElem?_getD, List.getElem?_eq_getElem h]; rfl
theorem val_split (ds : List Nat) (k : Nat) : val ds = val (ds.take k) + 65536 ^ (ds.take k).length * val (ds.drop k) := by
  have := val_append (ds.take k) (ds.drop k); rw [List.take_append_drop] at this; exact this
theorem digits_take {ds : List Nat} (h : ∀ d ∈ ds, d < 65536) (k : Nat) : ∀ d ∈ ds.take k, d < 65536 := fun d hd => h d (List.mem_of_mem_take hd)
/-- The highest digit that is unlike tells. -/
theorem cmp_digit {xs ys : List Nat} {k : Nat} (hl : xs.length = ys.length) (hk : k < xs.length) (ha : ∀ d ∈ xs, d < 65536) (hb : ∀ d ∈ ys, d < 65536) (hd : xs.drop (k + 1) = ys.drop (k + 1)) (hne : xs.getD k 0 ≠ ys.getD k 0) :
    decide (val ys < val xs) = decide (ys.getD k 0 < xs.getD k 0) := by
  have l1 : (xs.take k).length = k := by rw [List.length_take]; omega
  have l2 : (ys.take k).length = k := by rw [List.length_take]; omega
  have v1 := val_split xs k
  have v2 := val_split ys k
  have u1 := val_lt (xs.take k) (digits_take ha k)
  have u2 := val_lt (ys.take k) (digits_take hb k)
  rw [drop_cons hk, val] at v1
  rw [drop_cons (by omega), val, ← hd] at v2
  rw [l1] at v1 u1
  rw [l2] at v2 u2
  generalize xs.getD k 0 = x at *
  generalize ys.getD k 0 = y at *
  generalize val (xs.take k) = p at *
  generalize val (ys.take k) = q at *
  generalize val (xs.drop (k + 1)) = r at *
  rw [Nat.mul_add] at v1 v2
  generalize 65536 ^ k * (65536 * r) = t at *
  generalize hP : 65536 ^ k = P at *
  have key : ∀ x y p q : Nat, p < P → y < x → q < P → q + (P * y + t) < p + (P * x + t) := by
    intro x y p q h1 h2 h3
    have : P * (y + 1) ≤ P * x := Nat.mul_le_mul_left _ h2
    rw [Nat.mul_add, Nat.mul_one] at this; omega
  rcases Nat.lt_or_gt_of_ne hne with h | h
  · have := key y x q p u2 h u1
    rw [decide_eq_false (by omega), decide_eq_false (by omega)]
  · have := key x y p q u1 h u2
    rw [decide_eq_true (by omega), decide_eq_true h]
theorem trim_ge {ds : List Nat} (h : Trim ds) (hn : ds ≠ []) : 65536 ^ (ds.length - 1) ≤ val ds := by
  rcases h with h | ⟨r, d, rfl, hd⟩
  · exact absurd h hn
  · rw [val_append]
    simp only [val, List.length_append, List.length_cons, List.length_nil, Nat.zero_add, Nat.add_sub_cancel, Nat.mul_zero, Nat.add_zero]
    have : 65536 ^ r.length * 1 ≤ 65536 ^ r.length * d := Nat.mul_le_mul_left _ (by omega)
    omega
theorem cmp_len {xs ys : List Nat} (hb : ∀ d ∈ ys, d < 65536) (ta : Trim xs) (h : ys.length < xs.length) : val ys < val xs := by
  have h1 := val_lt ys hb
  have h2 := trim_ge ta (by intro e; rw [e] at h; simp at h)
  have h3 : 65536 ^ ys.length ≤ 65536 ^ (xs.length - 1) := Nat.pow_le_pow_right (by decide) (by omega)
  omega
theorem bdrewN (w : World) (n : Nat) : Below w.heap.size w (w.drewN n) := below_drewN (Below.refl _ _) n
def vals (ds : List Nat) : List Value := ds.map fun d => .int .u64 ((d : Nat) : Int)
theorem info_u64 : (Try.prog.info? 69).map (fun i => (i.zero, i.size, i.bytes)) = some (some (.int .u64 0), 1, 8) := by kernel_rfl
/-- Not in what was there. -/
def Fresh (B : Nat) (c : Option Addr) : Prop := ∀ x, c = some x → B ≤ x.block
/-- What the call owns is a row. -/
theorem row_of_owns {W : World} {base : Nat} {v : Value} {ds : List Nat} (h : W.ownsRow base 69 1 v ds.length (vals ds)) (hd : ∀ d ∈ ds, d < 65536) :
    ∃ a cap, v = .slice a ds.length cap ∧ RowF W a cap ds ∧ Fresh base a := by
  rcases h.2 with ⟨rfl, h0⟩ | ⟨g, cap, cur, rfl, hg, hb, hn, hc, hs, ht⟩
  · have : ds = [] := List.eq_nil_of_length_eq_zero h0
    subst this
    exact ⟨none, 0, rfl, ⟨Nat.le_refl _, by unfold maxLen; omega, hd, .inl rfl⟩, fun x hx => by cases hx⟩
  · refine ⟨_, cap, rfl, ⟨hn, hc, hd, .inr ⟨g, 0, rfl, ?_, fun i hi => ?_⟩⟩, fun x hx => by cases hx; exact hg⟩
    · rcases Nat.lt_or_ge g W.heap.size with hlt | hge
      · exact hlt
      · rw [Array.getElem?_eq_none hge] at hb; cases hb
    · have e : W.cell? ⟨g, 0 + i, none⟩ = cur[0 + i]? := by simp [World.cell?, hb]
      rw [e, Nat.zero_add]
      have : (cur.toList.take (ds.length * 1))[i]? = (vals ds)[i]? := by rw [ht]
      rw [Nat.mul_one, List.getElem?_take_of_lt hi] at this
      rw [← Array.getElem?_toList, this]
      unfold vals
      rw [List.getElem?_map, List.getElem?_eq_getElem hi, List.getD_eq_getElem?_getD, List.getElem?_eq_getElem hi]
      rfl
theorem RowF.take {W : World} {a : Option Addr} {cap : Nat} {ds : List Nat} (h : RowF W a cap ds) (n : Nat) : RowF W a cap (ds.take n) := by
  have hl : (ds.take n).length ≤ ds.length := by rw [List.length_take]; omega
  refine ⟨Nat.le_trans hl h.le, h.most, digits_take h.digits n, ?_⟩
  rcases h.cells with rfl | ⟨b, o, rfl, hlt, hc⟩
  · left; simp
  · refine .inr ⟨b, o, rfl, hlt, fun i hi => ?_⟩
    rw [hc i (by omega)]
    have hi' : i < n := by rw [List.length_take] at hi; omega
    rw [List.getD_eq_getElem?_getD, List.getD_eq_getElem?_getD, List.getElem?_take_of_lt hi']
theorem RowF.store {W : World} {a : Option Addr} {cap : Nat} {ds : List Nat} (h : RowF W a cap ds) {p : Addr} {B : Nat} (hf : Fresh B a) (hp : p.block < B) (v : Value) : RowF (W.setCell p v) a cap ds := by
  refine ⟨h.le, h.most, h.digits, ?_⟩
  rcases h.cells with h | ⟨b, o, rfl, hlt, hc⟩
  · exact .inl h
  · refine .inr ⟨b, o, rfl, by simpa [World.setCell] using hlt, fun i hi => ?_⟩
    have hb : B ≤ b := hf _ rfl
    rw [World.cell?_setCell_other _ _ _ _ (fun e => by rw [e] at hp; simp at hp; omega)]
    exact hc i hi
theorem cell_new1 (W : World) (x : Value) (t : TypeId) : ∀ j u, [x][j]? = some u → (W.alloc (.cells #[x] t)).cell? ((⟨W.heap.size, 0, none⟩ : Addr).add j) = some u := by
  intro j u hj
  match j, hj with
  | 0, hj => simp at hj; subst hj; simp [Addr.add]
  | j + 1, hj => simp at hj
theorem vals_snoc {ds : List Nat} {d : Nat} {z : Int} (h : z = (d : Int)) : vals (ds ++ [d]) = vals ds ++ [.int .u64 z] := by unfold vals; rw [List.map_append, h]; rfl
/-- The value of the first digits. -/
theorem val_take_succ (ds : List Nat) (i : Nat) : val (ds.take (i + 1)) = val (ds.take i) + 65536 ^ i * ds.getD i 0 := by
  by_cases h : i < ds.length
  · rw [take_snoc' h, val_append, List.length_take, Nat.min_eq_left (by omega)]; simp [val]
  · rw [List.take_of_length_le (by omega), List.take_of_length_le (by omega), List.getD_eq_getElem?_getD, List.getElem?_eq_none (by omega)]; simp
theorem getD_lt {ds : List Nat} (h : ∀ d ∈ ds, d < 65536) (i : Nat) : ds.getD i 0 < 65536 := by
  rw [List.getD_eq_getElem?_getD]
  by_cases hi : i < ds.length
  · rw [List.getElem?_eq_getElem hi]; exact h _ (List.getElem_mem hi)
  · rw [List.getElem?_eq_none (by omega)]; decide
theorem snoc_digits {ds : List Nat} {d : Nat} (h : ∀ x ∈ ds, x < 65536) (hd : d < 65536) : ∀ x ∈ ds ++ [d], x < 65536 := by
  intro x hx; rcases List.mem_append.1 hx with hx | hx
  · exact h x hx
  · simp at hx; subst hx; exact hd
/-- One digit more of a sum. -/
theorem sum_step {ds : List Nat} {i x y c A B : Nat} (hl : ds.length = i) (hv : val ds + 65536 ^ i * c = A + B) :
    val (ds ++ [(x + y + c) % 65536]) + 65536 ^ (i + 1) * ((x + y + c) / 65536) = A + 65536 ^ i * x + (B + 65536 ^ i * y) := by
  rw [val_append, hl]
  simp only [val, Nat.mul_zero, Nat.add_zero]
  have e := Nat.div_add_mod (x + y + c) 65536
  have : 65536 ^ i * ((x + y + c) % 65536) + 65536 ^ (i + 1) * ((x + y + c) / 65536) = 65536 ^ i * (x + y + c) := by
    rw [Nat.pow_succ, Nat.mul_assoc, ← Nat.mul_add, Nat.add_comm, e]
  rw [Nat.mul_add, Nat.mul_add] at this
  omega
theorem sum_done {xs ys ds : List Nat} {n c : Nat} (hx : ∀ d ∈ xs, d < 65536) (hy : ∀ d ∈ ys, d < 65536) (hn : n = max xs.length ys.length + 1) (hv : val ds + 65536 ^ n * c = val (xs.take n) + val (ys.take n)) : val ds = val xs + val ys := by
  rw [List.take_of_length_le (by omega), List.take_of_length_le (by omega)] at hv
  have h1 := val_lt xs hx
  have h2 := val_lt ys hy
  have h3 : 65536 ^ xs.length ≤ 65536 ^ (n - 1) := Nat.pow_le_pow_right (by decide) (by omega)
  have h4 : 65536 ^ ys.length ≤ 65536 ^ (n - 1) := Nat.pow_le_pow_right (by decide) (by omega)
  have h5 : 65536 ^ n = 65536 ^ (n - 1) * 65536 := by rw [← Nat.pow_succ]; congr 1; omega
  have : c = 0 := by
    apply Nat.eq_zero_of_not_pos
    intro hc
    have : 65536 ^ n * 1 ≤ 65536 ^ n * c := Nat.mul_le_mul_left _ hc
    omega
  subst this; omega
theorem maxL_run (x y : Nat) (ts : Array TypeId) (t : TypeId) (W : World) : (Builtin.max_ ts t #[.int .i64 (x : Int), .int .i64 (y : Int)]).run Try.prog W = .ok (.int .i64 ((max x y : Nat) : Int)) W := by
  rw [run_max_int2]; congr 2; split <;> omega
/-- One digit more of a difference. -/
theorem less_step {ds : List Nat} {i x y c A B : Nat} (hl : ds.length = i) (hv : val ds + B = A + 65536 ^ i * c) (hx : x < 65536) (hy : y < 65536) (hc : c ≤ 1) :
    val (ds ++ [(x + 65536 - y - c) % 65536]) + (B + 65536 ^ i * y) = A + 65536 ^ i * x + 65536 ^ (i + 1) * (1 - (x + 65536 - y - c) / 65536) := by
  rw [val_append, hl]
  simp only [val, Nat.mul_zero, Nat.add_zero]
  have key : (x + 65536 - y - c) % 65536 + y + c = x + 65536 * (1 - (x + 65536 - y - c) / 65536) := by omega
  generalize (x + 65536 - y - c) % 65536 = d at *
  generalize 1 - (x + 65536 - y - c) / 65536 = e at *
  have : 65536 ^ i * (d + y + c) = 65536 ^ i * (x + 65536 * e) := by rw [key]
  rw [Nat.mul_add, Nat.mul_add, Nat.mul_add] at this
  rw [show 65536 ^ (i + 1) * e = 65536 ^ i * (65536 * e) from by rw [Nat.pow_succ, Nat.mul_assoc]]
  omega
theorem less_done {xs ys ds : List Nat} {c : Nat} (hd : ∀ d ∈ ds, d < 65536) (hn : ds.length = xs.length) (hyx : ys.length ≤ xs.length) (hle : val ys ≤ val xs) (hv : val ds + val (ys.take ds.length) = val (xs.take ds.length) + 65536 ^ ds.length * c) : val ds + val ys = val xs := by
  rw [List.take_of_length_le (by omega), List.take_of_length_le (by omega)] at hv
  have h1 := val_lt ds hd
  have : c = 0 := by
    apply Nat.eq_zero_of_not_pos
    intro hc
    have : 65536 ^ ds.length * 1 ≤ 65536 ^ ds.length * c := Nat.mul_le_mul_left _ hc
    omega
  subst this; omega
/-- A row that may be written. -/
structure Out (W : World) (g : Nat) (ds : List Nat) : Prop where
  lt : g < W.heap.size
  digits : ∀ d ∈ ds, d < 65536
  cells : ∀ j, j < ds.length → W.cell? ⟨g, j, none⟩ = some (.int .u64 ((ds.getD j 0 : Nat) : Int))
  frozen : ∀ j, W.frozen? ⟨g, j, none⟩ = false
theorem Out.row {W : World} {g : Nat} {ds : List Nat} (h : Out W g ds) (hm : ds.length ≤ maxLen) : RowF W (some ⟨g, 0, none⟩) ds.length ds :=
  ⟨Nat.le_refl _, hm, h.digits, .inr ⟨g, 0, rfl, h.lt, fun i hi => by rw [Nat.zero_add]; exact h.cells i hi⟩⟩
theorem getD_set {ds : List Nat} {j i d : Nat} (hj : j < ds.length) : (ds.set j d).getD i 0 = if i = j then d else ds.getD i 0 := by
  rw [List.getD_eq_getElem?_getD, List.getD_eq_getElem?_getD, List.getElem?_set]
  by_cases h : j = i
  · subst h; simp [hj]
  · rw [if_neg h, if_neg (fun e => h e.symm)]
theorem set_digits {ds : List Nat} {j d : Nat} (h : ∀ x ∈ ds, x < 65536) (hd : d < 65536) : ∀ x ∈ ds.set j d, x < 65536 := by
  intro x hx; rcases List.mem_or_eq_of_mem_set hx with hx | hx
  · exact h x hx
  · rw [hx]; exact hd
theorem Out.set {W : World} {g : Nat} {ds : List Nat} (h : Out W g ds) {j d : Nat} {z : Int} (hj : j < ds.length) (hd : d < 65536) (hz : z = (d : Int)) : Out (W.setCell ⟨g, j, none⟩ (.int .u64 z)) g (ds.set j d) := by
  refine ⟨by simpa [World.setCell] using h.lt, set_digits h.digits hd, fun i hi => ?_, fun i => by rw [World.frozen?_setCell]; exact h.frozen i⟩
  rw [List.length_set] at hi
  rw [getD_set hj]
  by_cases e : i = j
  · subst e; rw [if_pos rfl, hz]; exact World.cell?_setCell_same _ _ _ (h.cells i hi)
  · rw [if_neg e, World.cell?_setCell_other _ _ _ _ (fun he => e (by cases he; rfl))]; exact h.cells i hi
theorem len3 {n m : Nat} {ds : List Nat} (h : n = val ds + 65536 ^ ds.length * m) (hm : 0 < m) (hn : n ≤ 9223372036854775808) : ds.length ≤ 3 := by
  apply Nat.le_of_not_lt
  intro hlt
  have h1 : 65536 ^ 4 ≤ 65536 ^ ds.length := Nat.pow_le_pow_right (by decide) hlt
  have h2 : 65536 ^ ds.length * 1 ≤ 65536 ^ ds.length * m := Nat.mul_le_mul_left _ hm
  omega
theorem of_len {n m : Nat} {ds : List Nat} (h : n = val ds + 65536 ^ ds.length * m) (ht : Trim ds) (hd : ∀ d ∈ ds, d < 65536) (hn : n ≤ 9223372036854775808) : ds.length ≤ 4 := by
  apply Nat.le_of_not_lt
  intro hlt
  have h1 := trim_ge ht (by intro e; rw [e] at hlt; simp at hlt)
  have h2 : 65536 ^ 4 ≤ 65536 ^ (ds.length - 1) := Nat.pow_le_pow_right (by decide) (by omega)
  omega
theorem of_alg {n m d : Nat} {ds : List Nat} (h : n = val ds + 65536 ^ ds.length * m) (hd : m % 65536 = d) : n = val (ds ++ [d]) + 65536 ^ (ds ++ [d]).length * (m / 65536) := by
  rw [val_append, List.length_append]
  simp only [val, List.length_cons, List.length_nil, Nat.mul_zero, Nat.add_zero, Nat.zero_add]
  have e := Nat.div_add_mod m 65536
  rw [hd] at e
  have : 65536 ^ ds.length * m = 65536 ^ ds.length * (65536 * (m / 65536) + d) := by rw [e]
  rw [Nat.mul_add, ← Nat.mul_assoc] at this
  rw [Nat.pow_succ]
  omega
theorem two_newD {W : World} {b : Nat} {x y u0 u1 : Value} (h0 : W.cell? ⟨b, 0, none⟩ = some u0) (h1 : W.cell? ⟨b, 1, none⟩ = some u1) :
    ((W.setCell ⟨b, 0, none⟩ x).setCell ⟨b, 1, none⟩ y).cell? ⟨b, 0, none⟩ = some x ∧ ((W.setCell ⟨b, 0, none⟩ x).setCell ⟨b, 1, none⟩ y).cell? ⟨b, 1, none⟩ = some y := by
  obtain ⟨_, k1⟩ := cell?_setCell_some (p := ⟨b, 0, none⟩) (x := x) h1
  refine ⟨?_, World.cell?_setCell_same _ _ _ k1⟩
  rw [World.cell?_setCell_other _ _ _ _ (by simp)]; exact World.cell?_setCell_same _ _ _ h0
/-- The box that is filled (behind the box of the result). -/
structure OfBox (W : World) (B : Nat) (s : Bool) (v : Value) (ds : List Nat) : Prop where
  lt : B + 1 < W.heap.size
  c0 : W.cell? ⟨B + 1, 0, none⟩ = some (.bool s)
  c1 : W.cell? ⟨B + 1, 1, none⟩ = some v
  f1 : W.frozen? ⟨B + 1, 1, none⟩ = false
  r0 : W.cell? ⟨B, 0, none⟩ = some (.bool false)
  r1 : W.cell? ⟨B, 1, none⟩ = some (.slice none 0 0)
  fr0 : W.frozen? ⟨B, 0, none⟩ = false
  fr1 : W.frozen? ⟨B, 1, none⟩ = false
  own : W.ownsRow (B + 2) 69 1 v ds.length (vals ds)
/-- Behind an append: all but the row is as it was. -/
theorem OfBox.grown {W W3 : World} {B : Nat} {s : Bool} {v : Value} {ds : List Nat} {o : Obj} (h : OfBox W B s v ds) (hg : (W.alloc o).grownBy W3 v.ownBlock) :
    B + 1 < W3.heap.size ∧ W3.cell? ⟨B + 1, 0, none⟩ = some (.bool s) ∧ W3.cell? ⟨B + 1, 1, none⟩ = some v ∧ W3.frozen? ⟨B + 1, 1, none⟩ = false ∧ W3.cell? ⟨B, 0, none⟩ = some (.bool false) ∧ W3.cell? ⟨B, 1, none⟩ = some (.slice none 0 0) ∧ W3.frozen? ⟨B, 0, none⟩ = false ∧ W3.frozen? ⟨B, 1, none⟩ = false := by
  have hlt := h.lt
  have blk : ∀ b, b < B + 2 → W3.heap[b]? = W.heap[b]? := by
    intro b hb
    rw [hg.block b (by simp; omega) (fun e => by have := (h.own.lt _ e.symm).1; omega), Below.heap_alloc _ _ _ (by omega)]
  have hsz := hg.size
  simp only [World.size_alloc] at hsz
  exact ⟨by omega, (World.cell?_of_block (w := W) (blk _ (by simp))).trans h.c0, (World.cell?_of_block (w := W) (blk _ (by simp))).trans h.c1, (World.frozen?_of_block (w := W) (blk _ (by simp))).trans h.f1, (World.cell?_of_block (w := W) (blk _ (by simp))).trans h.r0, (World.cell?_of_block (w := W) (blk _ (by simp))).trans h.r1, (World.frozen?_of_block (w := W) (blk _ (by simp))).trans h.fr0, (World.frozen?_of_block (w := W) (blk _ (by simp))).trans h.fr1⟩
theorem of_store {w3 : World} {B : Nat} {s : Bool} {v v' : Value} {ds : List Nat} {d : Nat} {z : Int} (g0 : B + 1 < w3.heap.size) (g1 : w3.cell? ⟨B + 1, 0, none⟩ = some (.bool s)) (g2 : w3.cell? ⟨B + 1, 1, none⟩ = some v) (g3 : w3.frozen? ⟨B + 1, 1, none⟩ = false) (g4 : w3.cell? ⟨B, 0, none⟩ = some (.bool false)) (g5 : w3.cell? ⟨B, 1, none⟩ = some (.slice none 0 0)) (g6 : w3.frozen? ⟨B, 0, none⟩ = false) (g7 : w3.frozen? ⟨B, 1, none⟩ = false)
    (hown : w3.ownsRow (B + 2) 69 1 v' (ds.length + 1) (vals ds ++ [.int .u64 z])) (hz : z = (d : Int)) : OfBox (w3.setCell ⟨B + 1, 1, none⟩ v') B s v' (ds ++ [d]) := by
  refine ⟨by simpa [World.setCell] using g0, ?_, World.cell?_setCell_same _ _ _ g2, ?_, ?_, ?_, ?_, ?_, ?_⟩
  · rw [World.cell?_setCell_other _ _ _ _ (by simp)]; exact g1
  · rw [World.frozen?_setCell]; exact g3
  · rw [World.cell?_setCell_other _ _ _ _ (by simp)]; exact g4
  · rw [World.cell?_setCell_other _ _ _ _ (by simp)]; exact g5
  · rw [World.frozen?_setCell]; exact g6
  · rw [World.frozen?_setCell]; exact g7
  · rw [vals_snoc hz, List.length_append]; exact ownsRow_setCell_below hown (by simp) _
/-- The end of a side. -/
def rend (b : Bool) : Int := if b then -9223372036854775808 else 9223372036854775807
theorem numb_rend {q : Int} (b : Bool) (h : 9223372036854775807 < q) : numb q b = rend b := by
  cases b
  · rw [numb_f]; unfold sat rend; rw [if_pos (by omega)]; rfl
  · rw [numb_t]; unfold sat rend
    by_cases e : q = 9223372036854775808
    · subst e; rfl
    · rw [if_neg (by omega), if_pos (by omega)]; rfl
theorem val_drop {ds : List Nat} {k : Nat} (h : k < ds.length) : val (ds.drop k) = ds.getD k 0 + 65536 * val (ds.drop (k + 1)) := by rw [drop_cons h, val]
theorem val_ge_drop (ds : List Nat) (k : Nat) (h : k < ds.length) : 65536 * val (ds.drop (k + 1)) ≤ val ds := by
  have h1 := val_split ds k
  rw [val_drop h] at h1
  have : 1 * (ds.getD k 0 + 65536 * val (ds.drop (k + 1))) ≤ 65536 ^ (ds.take k).length * (ds.getD k 0 + 65536 * val (ds.drop (k + 1))) := Nat.mul_le_mul_right _ (pow_pos' _)
  omega
/-- Without its lowest digit. -/
theorem RowF.tail {W : World} {b o cap : Nat} {ds : List Nat} (h : RowF W (some ⟨b, o, none⟩) cap ds) (hn : 0 < ds.length) : RowF W (some ⟨b, o + 1, none⟩) (cap - 1) (ds.drop 1) := by
  have hl : (ds.drop 1).length = ds.length - 1 := List.length_drop
  refine ⟨by rw [hl]; have := h.le; omega, by have := h.most; omega, fun d hd => h.digits d (List.mem_of_mem_drop hd), ?_⟩
  rcases h.cells with rfl | ⟨b', o', e, hlt, hc⟩
  · simp at hn
  · cases e
    refine .inr ⟨b, o + 1, rfl, hlt, fun i hi => ?_⟩
    rw [show o + 1 + i = o + (i + 1) from by omega, hc (i + 1) (by omega), List.getD_eq_getElem?_getD, List.getD_eq_getElem?_getD, List.getElem?_drop, Nat.add_comm 1 i]
/-- What a cell holds (a name that the walk does not open). -/
def rdv (w : World) (b o : Nat) : Value := (w.cell? ⟨b, o, none⟩).getD undef
theorem rdv_of {w : World} {b o : Nat} {v : Value} (h : w.cell? ⟨b, o, none⟩ = some v) : w.cell? ⟨b, o, none⟩ = some (rdv w b o) := by unfold rdv; rw [h]; rfl
/-- Two boxes that are read, and one that is written. -/
def BoxS (w : World) (s t : Bool) (x y : Value) (W : World) : Prop :=
  w.heap.size + 1 + 1 < W.heap.size ∧ W.cell? ⟨w.heap.size, 0, none⟩ = some (.bool s) ∧ W.cell? ⟨w.heap.size, 1, none⟩ = some x ∧ W.cell? ⟨w.heap.size + 1, 0, none⟩ = some (.bool t) ∧ W.cell? ⟨w.heap.size + 1, 1, none⟩ = some y ∧
  W.cell? ⟨w.heap.size + 1 + 1, 0, none⟩ = some (rdv W (w.heap.size + 1 + 1) 0) ∧ W.cell? ⟨w.heap.size + 1 + 1, 1, none⟩ = some (rdv W (w.heap.size + 1 + 1) 1) ∧ W.frozen? ⟨w.heap.size + 1 + 1, 0, none⟩ = false ∧ W.frozen? ⟨w.heap.size + 1 + 1, 1, none⟩ = false ∧ Below w.heap.size w W
theorem BoxS.start (w : World) (s t : Bool) (x y z0 z1 : Value) (T : TypeId) : BoxS w s t x y (((w.alloc (.cells #[.bool s, x] T)).alloc (.cells #[.bool t, y] T)).alloc (.cells #[z0, z1] T)).drew :=
  ⟨by simp, by simp [go_sem], by simp [go_sem], by simp [go_sem], by simp [go_sem], rdv_of (v := z0) (by simp [go_sem]), rdv_of (v := z1) (by simp [go_sem]), by simp [go_sem], by simp [go_sem], ((((Below.refl _ _).alloc (Nat.le_refl _) _).alloc (by simp) _).alloc (by simp; omega) _).drew⟩
theorem BoxS.keep {w W W1 : World} {s t : Bool} {x y : Value} (hb : Below W.heap.size W W1) (h : BoxS w s t x y W) : BoxS w s t x y W1 := by
  obtain ⟨h0, h1, h2, h3, h4, h5, h6, h7, h8, h9⟩ := h
  have kc : ∀ {b o v}, b < W.heap.size → W.cell? ⟨b, o, none⟩ = some v → W1.cell? ⟨b, o, none⟩ = some v := fun hb' h => (hb.cell (p := ⟨_, _, none⟩) hb').trans h
  have kf : ∀ {b o v}, b < W.heap.size → W.frozen? ⟨b, o, none⟩ = v → W1.frozen? ⟨b, o, none⟩ = v := fun hb' h => (hb.frozen (p := ⟨_, _, none⟩) hb').trans h
  exact ⟨Nat.lt_of_lt_of_le h0 hb.size, kc (by omega) h1, kc (by omega) h2, kc (by omega) h3, kc (by omega) h4, rdv_of (kc (by omega) h5), rdv_of (kc (by omega) h6), kf (by omega) h7, kf (by omega) h8, h9.trans (hb.mono (by omega))⟩
theorem BoxS.set {w W : World} {s t : Bool} {x y : Value} (h : BoxS w s t x y W) (p q : Value) : BoxS w s t x y ((W.setCell ⟨w.heap.size + 1 + 1, 0, none⟩ p).setCell ⟨w.heap.size + 1 + 1, 1, none⟩ q) := by
  obtain ⟨h0, h1, h2, h3, h4, h5, h6, h7, h8, h9⟩ := h
  have ko : ∀ {b o v}, b ≠ w.heap.size + 1 + 1 → W.cell? ⟨b, o, none⟩ = some v → ((W.setCell ⟨w.heap.size + 1 + 1, 0, none⟩ p).setCell ⟨w.heap.size + 1 + 1, 1, none⟩ q).cell? ⟨b, o, none⟩ = some v := by
    intro b o v hb hv
    rw [World.cell?_setCell_other _ _ _ _ (fun e => hb (by cases e; rfl)), World.cell?_setCell_other _ _ _ _ (fun e => hb (by cases e; rfl))]; exact hv
  obtain ⟨t0, t1⟩ := two_newD (x := p) (y := q) h5 h6
  exact ⟨by simpa [World.setCell] using h0, ko (by omega) h1, ko (by omega) h2, ko (by omega) h3, ko (by omega) h4, rdv_of t0, rdv_of t1, by rw [World.frozen?_setCell, World.frozen?_setCell]; exact h7, by rw [World.frozen?_setCell, World.frozen?_setCell]; exact h8, (h9.setCell (by simp; omega) _).setCell (by simp; omega) _⟩
theorem two_back {W : World} {b : Nat} {x y u0 u1 : Value} (h0 : ((W.setCell ⟨b, 0, none⟩ x).setCell ⟨b, 1, none⟩ y).cell? ⟨b, 0, none⟩ = some u0) (h1 : ((W.setCell ⟨b, 0, none⟩ x).setCell ⟨b, 1, none⟩ y).cell? ⟨b, 1, none⟩ = some u1) :
    ((W.setCell ⟨b, 0, none⟩ x).setCell ⟨b, 1, none⟩ y).cell? ⟨b, 0, none⟩ = some x ∧ ((W.setCell ⟨b, 0, none⟩ x).setCell ⟨b, 1, none⟩ y).cell? ⟨b, 1, none⟩ = some y := by
  obtain ⟨_, k0⟩ := set_back h0
  obtain ⟨_, k0⟩ := set_back k0
  obtain ⟨_, k1⟩ := set_back h1
  obtain ⟨_, k1⟩ := set_back k1
  exact two_newD k0 k1
/-- A sign and a size. -/
def sgn (s : Bool) (n : Nat) : Int := if s then -(n : Int) else (n : Int)
theorem BoxS.drew {w W : World} {s t : Bool} {x y : Value} (h : BoxS w s t x y W) : BoxS w s t x y W.drew := h.keep (Below.refl _ _).drew
theorem BoxS.start0 (w : World) (s t : Bool) (x y z0 z1 : Value) (T : TypeId) : BoxS w s t x y (((w.alloc (.cells #[.bool s, x] T)).alloc (.cells #[.bool t, y] T)).alloc (.cells #[z0, z1] T)) :=
  ⟨by simp, by simp [go_sem], by simp [go_sem], by simp [go_sem], by simp [go_sem], rdv_of (v := z0) (by simp [go_sem]), rdv_of (v := z1) (by simp [go_sem]), by simp [go_sem], by simp [go_sem], (((Below.refl _ _).alloc (Nat.le_refl _) _).alloc (by simp) _).alloc (by simp; omega) _⟩
/-- Bit by bit: the greatest number whose f is not above N. -/
def grGo (f : Nat → Nat) (N : Nat) : Nat → Nat → Nat
  | 0, acc => acc
  | k + 1, acc => grGo f N k (if f (acc + 2 ^ k) ≤ N then acc + 2 ^ k else acc)
/-- What the loop holds. -/
def GrInv (f : Nat → Nat) (N acc k : Nat) : Prop := k ≤ 64 ∧ acc % 2 ^ k = 0 ∧ acc + 2 ^ k ≤ 18446744073709551616 ∧ grGo f N k acc = grGo f N 64 0
theorem GrInv.start (f : Nat → Nat) (N : Nat) : GrInv f N 0 64 := ⟨Nat.le_refl _, by simp, by decide, rfl⟩
theorem numb_sgn (s : Bool) (n : Nat) : numb (n : Int) s = sat (sgn s n) := by cases s <;> rfl
/-- A box that is read. -/
def One (b : World) (s : Bool) (x : Value) (W : World) : Prop :=
  b.heap.size < W.heap.size ∧ W.cell? ⟨b.heap.size, 0, none⟩ = some (.bool s) ∧ W.cell? ⟨b.heap.size, 1, none⟩ = some x ∧ Below b.heap.size b W
theorem One.keep {w W W1 : World} {s : Bool} {x : Value} (hb : Below W.heap.size W W1) (h : One w s x W) : One w s x W1 :=
  ⟨Nat.lt_of_lt_of_le h.1 hb.size, keepCell hb h.1 h.2.1, keepCell hb h.1 h.2.2.1, h.2.2.2.trans (hb.mono (by have := h.1; omega))⟩
theorem One.start (w : World) (s : Bool) (x : Value) (T : TypeId) : One w s x (w.alloc (.cells #[.bool s, x] T)).drew :=
  ⟨by simp, by simp [go_sem], by simp [go_sem], ((Below.refl _ _).alloc (Nat.le_refl _) _).drew⟩
theorem sgn_not (t : Bool) (n : Nat) : sgn (!t) n = -sgn t n := by cases t <;> simp [sgn]
end Go.Proofs.Ythcmcjklhcfenaa
