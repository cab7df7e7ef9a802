/- Layer 1's own answers (embrasureref01): rows of digits that are made: sum, less. -/
import Derived.Test.YtfgbkmcbpmmfdaaRefA
namespace Go.Proofs.Ytfgbkmcbpmmfdaa
open Go.RowKit
set_option linter.unusedVariables false

def vals (ds : List Nat) : List Value := ds.map fun d => .int .u64 ((d : Nat) : Int)
theorem info_u64 : (Try.prog.info? 47).map (fun i => (i.zero, i.size, i.bytes)) = some (some (.int .u64 0), 1, 8) := by kernel_rfl
/-- Not in what was there. -/
def Fresh (B : Nat) (c : Option Addr) : Prop := ∀ x, c = some x → B ≤ x.block
/-- What the call owns is a row. -/
theorem row_of_owns {W : World} {base : Nat} {v : Value} {ds : List Nat} (h : W.ownsRow base 47 1 v ds.length (vals ds)) (hd : ∀ d ∈ ds, d < 65536) :
    ∃ a cap, v = .slice a ds.length cap ∧ Row W a cap ds ∧ Fresh base a := by
  rcases h.2 with ⟨rfl, h0⟩ | ⟨g, cap, cur, rfl, hg, hb, hn, hc, hs, ht⟩
  · have : ds = [] := List.eq_nil_of_length_eq_zero h0
    subst this
    exact ⟨none, 0, rfl, ⟨Nat.le_refl _, by unfold maxLen; omega, hd, .inl rfl⟩, fun x hx => by cases hx⟩
  · refine ⟨_, cap, rfl, ⟨hn, hc, hd, .inr ⟨g, 0, rfl, ?_, fun i hi => ?_⟩⟩, fun x hx => by cases hx; exact hg⟩
    · rcases Nat.lt_or_ge g W.heap.size with hlt | hge
      · exact hlt
      · rw [Array.getElem?_eq_none hge] at hb; cases hb
    · have e : W.cell? ⟨g, 0 + i, none⟩ = cur[0 + i]? := by simp [World.cell?, hb]
      rw [e, Nat.zero_add]
      have : (cur.toList.take (ds.length * 1))[i]? = (vals ds)[i]? := by rw [ht]
      rw [Nat.mul_one, List.getElem?_take_of_lt hi] at this
      rw [← Array.getElem?_toList, this]
      unfold vals
      rw [List.getElem?_map, List.getElem?_eq_getElem hi, List.getD_eq_getElem?_getD, List.getElem?_eq_getElem hi]
      rfl
theorem Row.take {W : World} {a : Option Addr} {cap : Nat} {ds : List Nat} (h : Row W a cap ds) (n : Nat) : Row W a cap (ds.take n) := by
  have hl : (ds.take n).length ≤ ds.length := by rw [List.length_take]; omega
  refine ⟨Nat.le_trans hl h.le, h.most, digits_take h.digits n, ?_⟩
  rcases h.cells with rfl | ⟨b, o, rfl, hlt, hc⟩
  · left; simp
  · refine .inr ⟨b, o, rfl, hlt, fun i hi => ?_⟩
    rw [hc i (by omega)]
    have hi' : i < n := by rw [List.length_take] at hi; omega
    rw [List.getD_eq_getElem?_getD, List.getD_eq_getElem?_getD, List.getElem?_take_of_lt hi']
theorem Row.store {W : World} {a : Option Addr} {cap : Nat} {ds : List Nat} (h : Row W a cap ds) {p : Addr} {B : Nat} (hf : Fresh B a) (hp : p.block < B) (v : Value) : Row (W.setCell p v) a cap ds := by
  refine ⟨h.le, h.most, h.digits, ?_⟩
  rcases h.cells with h | ⟨b, o, rfl, hlt, hc⟩
  · exact .inl h
  · refine .inr ⟨b, o, rfl, by simpa [World.setCell] using hlt, fun i hi => ?_⟩
    have hb : B ≤ b := hf _ rfl
    rw [World.cell?_setCell_other _ _ _ _ (fun e => by rw [e] at hp; simp at hp; omega)]
    exact hc i hi
theorem cell_new1 (W : World) (x : Value) (t : TypeId) : ∀ j u, [x][j]? = some u → (W.alloc (.cells #[x] t)).cell? ((⟨W.heap.size, 0, none⟩ : Addr).add j) = some u := by
  intro j u hj
  match j, hj with
  | 0, hj => simp at hj; subst hj; simp [Addr.add]
  | j + 1, hj => simp at hj

theorem vals_snoc {ds : List Nat} {d : Nat} {z : Int} (h : z = (d : Int)) : vals (ds ++ [d]) = vals ds ++ [.int .u64 z] := by unfold vals; rw [List.map_append, h]; rfl
/-- The value of the first digits. -/
theorem val_take_succ (ds : List Nat) (i : Nat) : val (ds.take (i + 1)) = val (ds.take i) + 65536 ^ i * ds.getD i 0 := by
  by_cases h : i < ds.length
  · rw [take_snoc' h, val_append, List.length_take, Nat.min_eq_left (by omega)]; simp [val]
  · rw [List.take_of_length_le (by omega), List.take_of_length_le (by omega), List.getD_eq_getElem?_getD, List.getElem?_eq_none (by omega)]; simp
theorem getD_lt {ds : List Nat} (h : ∀ d ∈ ds, d < 65536) (i : Nat) : ds.getD i 0 < 65536 := by
  rw [List.getD_eq_getElem?_getD]
  by_cases hi : i < ds.length
  · rw [List.getElem?_eq_getElem hi]; exact h _ (List.getElem_mem hi)
  · rw [List.getElem?_eq_none (by omega)]; decide
theorem snoc_digits {ds : List Nat} {d : Nat} (h : ∀ x ∈ ds, x < 65536) (hd : d < 65536) : ∀ x ∈ ds ++ [d], x < 65536 := by
  intro x hx; rcases List.mem_append.1 hx with hx | hx
  · exact h x hx
  · simp at hx; subst hx; exact hd
/-- One digit more of a sum. -/
theorem sum_step {ds : List Nat} {i x y c A B : Nat} (hl : ds.length = i) (hv : val ds + 65536 ^ i * c = A + B) :
    val (ds ++ [(x + y + c) % 65536]) + 65536 ^ (i + 1) * ((x + y + c) / 65536) = A + 65536 ^ i * x + (B + 65536 ^ i * y) := by
  rw [val_append, hl]
  simp only [val, Nat.mul_zero, Nat.add_zero]
  have e := Nat.div_add_mod (x + y + c) 65536
  have : 65536 ^ i * ((x + y + c) % 65536) + 65536 ^ (i + 1) * ((x + y + c) / 65536) = 65536 ^ i * (x + y + c) := by
    rw [Nat.pow_succ, Nat.mul_assoc, ← Nat.mul_add, Nat.add_comm, e]
  rw [Nat.mul_add, Nat.mul_add] at this
  omega
theorem sum_done {xs ys ds : List Nat} {n c : Nat} (hx : ∀ d ∈ xs, d < 65536) (hy : ∀ d ∈ ys, d < 65536) (hn : n = max xs.length ys.length + 1) (hv : val ds + 65536 ^ n * c = val (xs.take n) + val (ys.take n)) : val ds = val xs + val ys := by
  rw [List.take_of_length_le (by omega), List.take_of_length_le (by omega)] at hv
  have h1 := val_lt xs hx
  have h2 := val_lt ys hy
  have h3 : 65536 ^ xs.length ≤ 65536 ^ (n - 1) := Nat.pow_le_pow_right (by decide) (by omega)
  have h4 : 65536 ^ ys.length ≤ 65536 ^ (n - 1) := Nat.pow_le_pow_right (by decide) (by omega)
  have h5 : 65536 ^ n = 65536 ^ (n - 1) * 65536 := by rw [← Nat.pow_succ]; congr 1; omega
  have : c = 0 := by
    apply Nat.eq_zero_of_not_pos
    intro hc
    have : 65536 ^ n * 1 ≤ 65536 ^ n * c := Nat.mul_le_mul_left _ hc
    omega
  subst this; omega
theorem maxL_run (x y : Nat) (ts : Array TypeId) (t : TypeId) (W : World) : (Builtin.max_ ts t #[.int .i64 (x : Int), .int .i64 (y : Int)]).run Try.prog W = .ok (.int .i64 ((max x y : Nat) : Int)) W := by
  rw [run_max_int2]; congr 2; split <;> omega

set_option maxHeartbeats 4000000 in
theorem refSum (a b : Option Addr) (ca cb : Nat) (xs ys : List Nat) (w : World) (h : Row w a ca xs) (k : Row w b cb ys) (lx : xs.length ≤ 100) (ly : ys.length ≤ 100) :
    Calls Try.prog 65 #[.slice a xs.length ca, .slice b ys.length cb] w fun e w' =>
      (∃ c cc rs, e = .returned (.slice c rs.length cc) ∧ Row w' c cc rs ∧ val rs = val xs + val ys ∧ Trim rs ∧ rs.length ≤ max xs.length ys.length + 1 ∧ Fresh w.heap.size c) ∧ Below w.heap.size w w' := by
  obtain ⟨i0, hi, hz0, hz1, hz2⟩ := info_parts info_u64
  have hm := maxL_run xs.length ys.length
  obtain ⟨N, hN⟩ : ∃ N, max xs.length ys.length = N := ⟨_, rfl⟩
  rw [hN] at hm
  have HN : Hid _ := hN
  have lN : N ≤ 100 := by omega
  clear hN
  go_enter Try.func65, Try.ntmps65
  go_wp2
  go_loopw [5, 6, 7] (fun v c t W => ∃ (i cy : Nat) (ds : List Nat), t = .int .i64 i ∧ c = .int .u64 cy ∧ i ≤ N + 1 ∧ cy ≤ 1 ∧ ds.length = i ∧ (∀ d ∈ ds, d < 65536) ∧ W.ownsRow w.heap.size 47 1 v i (vals ds) ∧ val ds + 65536 ^ i * cy = val (xs.take i) + val (ys.take i) ∧ Below w.heap.size w W) (fun _ _ t _ => N + 1 - (intOf t).toNat)
  case atStart =>
    refine ⟨0, 0, [], rfl, rfl, by omega, by omega, rfl, by simp, ⟨rfl, .inr ⟨w.heap.size, 0, #[], rfl, Nat.le_refl _, ?_, by omega, by unfold maxLen; omega, rfl, rfl⟩⟩, by simp [val], (Below.refl _ _).alloc (Nat.le_refl _) _⟩
    exact (MapKept.heap_alloc w _).1
  case round =>
    obtain ⟨i, cy, ds, rfl, rfl, hiN, hcy, hl, hdig, hown, hv, hB⟩ := hrel
    have hr := h.keep hB; have kr := k.keep hB
    by_cases hlt : i < N + 1
    · have hlt' : (i : Int) < (N : Int) + 1 := by omega
      have HV : Hid _ := hv; have HL : Hid _ := hl
      clear hv hl
      obtain ⟨x, ex⟩ : ∃ x, xs.getD i 0 = x := ⟨_, rfl⟩
      obtain ⟨y, ey⟩ : ∃ y, ys.getD i 0 = y := ⟨_, rfl⟩
      have hx := getD_lt h.digits i; have hy := getD_lt k.digits i
      have t1 := val_take_succ xs i; have t2 := val_take_succ ys i
      rw [ex] at hx t1; rw [ey] at hy t2
      have EX : Hid _ := ex; have EY : Hid _ := ey; have T1 : Hid _ := t1; have T2 : Hid _ := t2
      clear ex ey t1 t2
      go_wp2_with fail
      refine (refAtN a ca xs i x _ hr (by omega) EX).mono ?_
      rintro e W1 ⟨rfl, hw1⟩
      rw [hw1]
      clear hw1 W1
      go_wp2_with fail
      refine (refAtN b cb ys i y _ kr (by omega) EY).mono ?_
      rintro e W1 ⟨rfl, hw1⟩
      rw [hw1]
      clear hw1 W1
      go_wp2_with (at_builtin; refine wpList_append_own _ rfl _ _ 41 rfl w.heap.size 47 i0 (.int .u64 0) 1 8 Try.underlying41 hi hz0 hz1 hz2 rfl (by decide) _ _ _ rfl (hown.alloc _) ⟨wr.heap.size, 0, none⟩ 1 1 [.int .u64 (((x : Int) + (y : Int) + (cy : Int)) % 65536)] rfl rfl (cell_new1 _ _ _) (fun u hu => by simp at hu; subst hu; rfl) (by unfold maxLen; omega) (by omega) (by have := hB.size; simp; omega) ?_; intro v' w3 hown' hgrow hnil)
      have hd : (((x : Int) + (y : Int) + (cy : Int)) % 65536) = (((x + y + cy) % 65536 : Nat) : Int) := by omega
      have hq : (((x : Int) + (y : Int) + (cy : Int)) / 65536) = (((x + y + cy) / 65536 : Nat) : Int) := by omega
      refine ⟨⟨i + 1, (x + y + cy) / 65536, ds ++ [(x + y + cy) % 65536], by go_num, by rw [hq], by omega, by omega, by rw [List.length_append, HL.out]; rfl, snoc_digits hdig (by omega), by rw [vals_snoc hd]; exact hown', ?_, Below.grown (hB.alloc hB.size _) hgrow (by have := hB.size; simp; omega) (fun j hj => (hown.lt _ hj).1)⟩, by simp [intOf]; omega⟩
      rw [sum_step HL.out HV.out, T1.out, T2.out]
    · subst hl
      have hlt' : ¬ ((ds.length : Nat) : Int) < (N : Int) + 1 := by omega
      obtain ⟨a', cap', rfl, hrow, hfr⟩ := row_of_owns hown hdig
      have hsum : val ds = val xs + val ys := sum_done h.digits k.digits (by rw [HN.out]; omega) hv
      have HS : Hid _ := hsum
      clear hv hsum
      go_wp2_with fail
      refine (refCut a' cap' ds _ hrow).mono ?_
      rintro e W1 ⟨⟨n, hn, rfl, hvn, ht⟩, hw1⟩
      rw [hw1]
      clear hw1 W1
      have HVN : Hid _ := hvn
      clear hvn
      have hlen : (ds.take n).length = n := by rw [List.length_take, Nat.min_eq_left hn]
      have HLN : Hid _ := hlen
      clear hlen
      go_wp2
      go_ret
      exact ⟨⟨a', cap', ds.take n, by rw [HLN.out]; rfl, hrow.take n, HVN.out.trans HS.out, ht, by rw [HLN.out, HN.out]; omega, hfr⟩, hB⟩
/-- One digit more of a difference. -/
theorem less_step {ds : List Nat} {i x y c A B : Nat} (hl : ds.length = i) (hv : val ds + B = A + 65536 ^ i * c) (hx : x < 65536) (hy : y < 65536) (hc : c ≤ 1) :
    val (ds ++ [(x + 65536 - y - c) % 65536]) + (B + 65536 ^ i * y) = A + 65536 ^ i * x + 65536 ^ (i + 1) * (1 - (x + 65536 - y - c) / 65536) := by
  rw [val_append, hl]
  simp only [val, Nat.mul_zero, Nat.add_zero]
  have key : (x + 65536 - y - c) % 65536 + y + c = x + 65536 * (1 - (x + 65536 - y - c) / 65536) := by omega
  generalize (x + 65536 - y - c) % 65536 = d at *
  generalize 1 - (x + 65536 - y - c) / 65536 = e at *
  have : 65536 ^ i * (d + y + c) = 65536 ^ i * (x + 65536 * e) := by rw [key]
  rw [Nat.mul_add, Nat.mul_add, Nat.mul_add] at this
  rw [show 65536 ^ (i + 1) * e = 65536 ^ i * (65536 * e) from by rw [Nat.pow_succ, Nat.mul_assoc]]
  omega
theorem less_done {xs ys ds : List Nat} {c : Nat} (hd : ∀ d ∈ ds, d < 65536) (hn : ds.length = xs.length) (hyx : ys.length ≤ xs.length) (hle : val ys ≤ val xs) (hv : val ds + val (ys.take ds.length) = val (xs.take ds.length) + 65536 ^ ds.length * c) : val ds + val ys = val xs := by
  rw [List.take_of_length_le (by omega), List.take_of_length_le (by omega)] at hv
  have h1 := val_lt ds hd
  have : c = 0 := by
    apply Nat.eq_zero_of_not_pos
    intro hc
    have : 65536 ^ ds.length * 1 ≤ 65536 ^ ds.length * c := Nat.mul_le_mul_left _ hc
    omega
  subst this; omega

set_option maxHeartbeats 4000000 in
theorem refLess (a b : Option Addr) (ca cb : Nat) (xs ys : List Nat) (w : World) (h : Row w a ca xs) (k : Row w b cb ys) (lx : xs.length ≤ 100) (ty : Trim ys) (hle : val ys ≤ val xs) :
    Calls Try.prog 67 #[.slice a xs.length ca, .slice b ys.length cb] w fun e w' =>
      (∃ c cc rs, e = .returned (.slice c rs.length cc) ∧ Row w' c cc rs ∧ val rs + val ys = val xs ∧ Trim rs ∧ rs.length ≤ xs.length ∧ Fresh w.heap.size c) ∧ Below w.heap.size w w' := by
  obtain ⟨i0, hi, hz0, hz1, hz2⟩ := info_parts info_u64
  have hyx : ys.length ≤ xs.length := by
    apply Nat.le_of_not_lt; intro hlt
    have := cmp_len h.digits ty hlt; omega
  have HLE : Hid _ := hle
  have HYX : Hid _ := hyx
  clear hle
  go_enter Try.func67, Try.ntmps67
  go_wp2
  go_loopw [5, 6, 7] (fun v c t W => ∃ (i cy : Nat) (ds : List Nat), t = .int .i64 i ∧ c = .int .u64 cy ∧ i ≤ xs.length ∧ cy ≤ 1 ∧ ds.length = i ∧ (∀ d ∈ ds, d < 65536) ∧ W.ownsRow w.heap.size 47 1 v i (vals ds) ∧ val ds + val (ys.take i) = val (xs.take i) + 65536 ^ i * cy ∧ Below w.heap.size w W) (fun _ _ t _ => xs.length - (intOf t).toNat)
  case atStart =>
    refine ⟨0, 0, [], rfl, rfl, by omega, by omega, rfl, by simp, ⟨rfl, .inr ⟨w.heap.size, 0, #[], rfl, Nat.le_refl _, ?_, by omega, by unfold maxLen; omega, rfl, rfl⟩⟩, by simp [val], (Below.refl _ _).alloc (Nat.le_refl _) _⟩
    exact (MapKept.heap_alloc w _).1
  case round =>
    obtain ⟨i, cy, ds, rfl, rfl, hiN, hcy, hl, hdig, hown, hv, hB⟩ := hrel
    have hr := h.keep hB; have kr := k.keep hB
    by_cases hlt : i < xs.length
    · have hlt' : (i : Int) < (xs.length : Int) := by omega
      have HV : Hid _ := hv; have HL : Hid _ := hl
      clear hv hl
      obtain ⟨x, ex⟩ : ∃ x, xs.getD i 0 = x := ⟨_, rfl⟩
      obtain ⟨y, ey⟩ : ∃ y, ys.getD i 0 = y := ⟨_, rfl⟩
      have hx := getD_lt h.digits i; have hy := getD_lt k.digits i
      have t1 := val_take_succ xs i; have t2 := val_take_succ ys i
      rw [ex] at hx t1; rw [ey] at hy t2
      have EX : Hid _ := ex; have EY : Hid _ := ey; have T1 : Hid _ := t1; have T2 : Hid _ := t2
      clear ex ey t1 t2
      go_wp2_with fail
      refine (refAtN a ca xs i x _ hr (by omega) EX).mono ?_
      rintro e W1 ⟨rfl, hw1⟩
      rw [hw1]
      clear hw1 W1
      go_wp2_with fail
      refine (refAtN b cb ys i y _ kr (by omega) EY).mono ?_
      rintro e W1 ⟨rfl, hw1⟩
      rw [hw1]
      clear hw1 W1
      go_wp2_with (at_builtin; refine wpList_append_own _ rfl _ _ 41 rfl w.heap.size 47 i0 (.int .u64 0) 1 8 Try.underlying41 hi hz0 hz1 hz2 rfl (by decide) _ _ _ rfl (hown.alloc _) ⟨wr.heap.size, 0, none⟩ 1 1 [.int .u64 (((x : Int) + 65536 - (y : Int) - (cy : Int)) % 65536)] rfl rfl (cell_new1 _ _ _) (fun u hu => by simp at hu; subst hu; rfl) (by unfold maxLen; omega) (by omega) (by have := hB.size; simp; omega) ?_; intro v' w3 hown' hgrow hnil)
      have hd : (((x : Int) + 65536 - (y : Int) - (cy : Int)) % 65536) = (((x + 65536 - y - cy) % 65536 : Nat) : Int) := by omega
      have hq : 1 - (((x : Int) + 65536 - (y : Int) - (cy : Int)) / 65536) = ((1 - (x + 65536 - y - cy) / 65536 : Nat) : Int) := by omega
      refine ⟨⟨i + 1, 1 - (x + 65536 - y - cy) / 65536, ds ++ [(x + 65536 - y - cy) % 65536], by go_num, by rw [hq], by omega, by omega, by rw [List.length_append, HL.out]; rfl, snoc_digits hdig (by omega), by rw [vals_snoc hd]; exact hown', ?_, Below.grown (hB.alloc hB.size _) hgrow (by have := hB.size; simp; omega) (fun j hj => (hown.lt _ hj).1)⟩, by simp [intOf]; omega⟩
      rw [T1.out, T2.out]
      exact less_step HL.out HV.out hx hy hcy
    · subst hl
      have hlt' : ¬ ((ds.length : Nat) : Int) < (xs.length : Int) := by omega
      obtain ⟨a', cap', rfl, hrow, hfr⟩ := row_of_owns hown hdig
      have hsum : val ds + val ys = val xs := less_done hdig (by omega) HYX.out HLE.out hv
      have HS : Hid _ := hsum
      clear hv hsum
      go_wp2_with fail
      refine (refCut a' cap' ds _ hrow).mono ?_
      rintro e W1 ⟨⟨n, hn, rfl, hvn, ht⟩, hw1⟩
      rw [hw1]
      clear hw1 W1
      have HVN : Hid _ := hvn
      clear hvn
      have hlen : (ds.take n).length = n := by rw [List.length_take, Nat.min_eq_left hn]
      have HLN : Hid _ := hlen
      clear hlen
      go_wp2
      go_ret
      exact ⟨⟨a', cap', ds.take n, by rw [HLN.out]; rfl, hrow.take n, by rw [HVN.out]; exact HS.out, ht, by rw [HLN.out]; omega, hfr⟩, hB⟩
end Go.Proofs.Ytfgbkmcbpmmfdaa
