/- Layer 1's own answers (embrasureref01): Of, Int. -/
import Derived.Test.YtfgbkmcbpmmfdaaRefC
import Derived.Deep.RegionHeld3
import Derived.Deep.DrawnRows
import Derived.Deep.AppendLies
import Derived.Deep.DeepCutAuto
import Derived.Deep.CutBlock
namespace Go.Proofs.Ytfgbkmcbpmmfdaa
open Go.RowKit
set_option linter.unusedVariables false
attribute [local go_sem ↓] Go.wp_at_zero Go.wp_at_succ

/-- The digits of a number, the lowest first (by fuel). -/
def digs : Nat → Nat → List Nat
  | 0, _ => []
  | f + 1, n => if n = 0 then [] else (n % 65536) :: digs f (n / 65536)
theorem val_digs : ∀ (f n : Nat), n < 65536 ^ f → val (digs f n) = n
  | 0, n, h => by simp at h; subst h; rfl
  | f + 1, n, h => by
    unfold digs
    by_cases h0 : n = 0
    · rw [if_pos h0, h0]; rfl
    · rw [if_neg h0, val, val_digs f (n / 65536) (by rw [Nat.pow_succ] at h; omega)]; omega
theorem digs_lt : ∀ (f n : Nat), ∀ d ∈ digs f n, d < 65536
  | 0, n => by intro d hd; simp [digs] at hd
  | f + 1, n => by
    intro d hd
    unfold digs at hd
    split at hd
    · simp at hd
    · rcases List.mem_cons.1 hd with h | h
      · rw [h]; omega
      · exact digs_lt f _ d h
theorem digs_len : ∀ (f n : Nat), (digs f n).length ≤ f
  | 0, n => by simp [digs]
  | f + 1, n => by
    unfold digs; split
    · simp
    · simp only [List.length_cons]; have := digs_len f (n / 65536); omega
theorem digs_trim : ∀ (f n : Nat), n < 65536 ^ f → Trim (digs f n)
  | 0, n, h => .inl rfl
  | f + 1, n, h => by
    unfold digs
    by_cases h0 : n = 0
    · rw [if_pos h0]; exact .inl rfl
    · rw [if_neg h0]
      have hq : n / 65536 < 65536 ^ f := by rw [Nat.pow_succ] at h; omega
      rcases digs_trim f (n / 65536) hq with e | ⟨r, d, e, hd⟩
      · rw [e]
        refine .inr ⟨[], n % 65536, rfl, fun hm => ?_⟩
        have hv := val_digs f (n / 65536) hq
        rw [e] at hv
        simp only [val] at hv
        omega
      · rw [e]; exact .inr ⟨n % 65536 :: r, d, rfl, hd⟩

theorem len3 {n m : Nat} {ds : List Nat} (h : n = val ds + 65536 ^ ds.length * m) (hm : 0 < m) (hn : n ≤ 9223372036854775808) : ds.length ≤ 3 := by
  apply Nat.le_of_not_lt
  intro hlt
  have h1 : 65536 ^ 4 ≤ 65536 ^ ds.length := Nat.pow_le_pow_right (by decide) hlt
  have h2 : 65536 ^ ds.length * 1 ≤ 65536 ^ ds.length * m := Nat.mul_le_mul_left _ hm
  omega
theorem of_len {n m : Nat} {ds : List Nat} (h : n = val ds + 65536 ^ ds.length * m) (ht : Trim ds) (hd : ∀ d ∈ ds, d < 65536) (hn : n ≤ 9223372036854775808) : ds.length ≤ 4 := by
  apply Nat.le_of_not_lt
  intro hlt
  have h1 := trim_ge ht (by intro e; rw [e] at hlt; simp at hlt)
  have h2 : 65536 ^ 4 ≤ 65536 ^ (ds.length - 1) := Nat.pow_le_pow_right (by decide) (by omega)
  omega
theorem of_alg {n m d : Nat} {ds : List Nat} (h : n = val ds + 65536 ^ ds.length * m) (hd : m % 65536 = d) : n = val (ds ++ [d]) + 65536 ^ (ds ++ [d]).length * (m / 65536) := by
  rw [val_append, List.length_append]
  simp only [val, List.length_cons, List.length_nil, Nat.mul_zero, Nat.add_zero, Nat.zero_add]
  have e := Nat.div_add_mod m 65536
  rw [hd] at e
  have : 65536 ^ ds.length * m = 65536 ^ ds.length * (65536 * (m / 65536) + d) := by rw [e]
  rw [Nat.mul_add, ← Nat.mul_assoc] at this
  rw [Nat.pow_succ]
  omega
theorem two_newD {W : World} {b : Nat} {x y u0 u1 : Value} (h0 : W.cell? ⟨b, 0, none⟩ = some u0) (h1 : W.cell? ⟨b, 1, none⟩ = some u1) :
    ((W.setCell ⟨b, 0, none⟩ x).setCell ⟨b, 1, none⟩ y).cell? ⟨b, 0, none⟩ = some x ∧ ((W.setCell ⟨b, 0, none⟩ x).setCell ⟨b, 1, none⟩ y).cell? ⟨b, 1, none⟩ = some y := by
  obtain ⟨_, k1⟩ := cell?_setCell_some (p := ⟨b, 0, none⟩) (x := x) h1
  refine ⟨?_, World.cell?_setCell_same _ _ _ k1⟩
  rw [World.cell?_setCell_other _ _ _ _ (by simp)]; exact World.cell?_setCell_same _ _ _ h0
/-- The box that is filled (behind the box of the result). -/
structure OfBox (W : World) (B : Nat) (s : Bool) (v : Value) (ds : List Nat) : Prop where
  lt : B + 1 < W.heap.size
  c0 : W.cell? ⟨B + 1, 0, none⟩ = some (.bool s)
  c1 : W.cell? ⟨B + 1, 1, none⟩ = some v
  f1 : W.frozen? ⟨B + 1, 1, none⟩ = false
  r0 : W.cell? ⟨B, 0, none⟩ = some (.bool false)
  r1 : W.cell? ⟨B, 1, none⟩ = some (.slice none 0 0)
  fr0 : W.frozen? ⟨B, 0, none⟩ = false
  fr1 : W.frozen? ⟨B, 1, none⟩ = false
  own : W.ownsRow (B + 2) 47 1 v ds.length (vals ds)
theorem OfBox.start (w : World) (s : Bool) : OfBox ((w.alloc (.cells #[.bool false, .slice none 0 0] 43)).alloc (.cells #[.bool s, .slice none 0 0] 43)) w.heap.size s (.slice none 0 0) [] :=
  ⟨by simp, by simp [go_sem], by simp [go_sem], by simp [go_sem], by simp [go_sem], by simp [go_sem], by simp [go_sem], by simp [go_sem], ⟨rfl, .inl ⟨rfl, rfl⟩⟩⟩
/-- Behind an append: all but the row is as it was. -/
theorem OfBox.grown {W W3 : World} {B : Nat} {s : Bool} {v : Value} {ds : List Nat} {o : Obj} (h : OfBox W B s v ds) (hg : (W.alloc o).grownBy W3 v.ownBlock) :
    B + 1 < W3.heap.size ∧ W3.cell? ⟨B + 1, 0, none⟩ = some (.bool s) ∧ W3.cell? ⟨B + 1, 1, none⟩ = some v ∧ W3.frozen? ⟨B + 1, 1, none⟩ = false ∧ W3.cell? ⟨B, 0, none⟩ = some (.bool false) ∧ W3.cell? ⟨B, 1, none⟩ = some (.slice none 0 0) ∧ W3.frozen? ⟨B, 0, none⟩ = false ∧ W3.frozen? ⟨B, 1, none⟩ = false := by
  have hlt := h.lt
  have blk : ∀ b, b < B + 2 → W3.heap[b]? = W.heap[b]? := by
    intro b hb
    rw [hg.block b (by simp; omega) (fun e => by have := (h.own.lt _ e.symm).1; omega), Below.heap_alloc _ _ _ (by omega)]
  have hsz := hg.size
  simp only [World.size_alloc] at hsz
  exact ⟨by omega, (World.cell?_of_block (w := W) (blk _ (by simp))).trans h.c0, (World.cell?_of_block (w := W) (blk _ (by simp))).trans h.c1, (World.frozen?_of_block (w := W) (blk _ (by simp))).trans h.f1, (World.cell?_of_block (w := W) (blk _ (by simp))).trans h.r0, (World.cell?_of_block (w := W) (blk _ (by simp))).trans h.r1, (World.frozen?_of_block (w := W) (blk _ (by simp))).trans h.fr0, (World.frozen?_of_block (w := W) (blk _ (by simp))).trans h.fr1⟩
theorem of_store {w3 : World} {B : Nat} {s : Bool} {v v' : Value} {ds : List Nat} {d : Nat} {z : Int} (g0 : B + 1 < w3.heap.size) (g1 : w3.cell? ⟨B + 1, 0, none⟩ = some (.bool s)) (g2 : w3.cell? ⟨B + 1, 1, none⟩ = some v) (g3 : w3.frozen? ⟨B + 1, 1, none⟩ = false) (g4 : w3.cell? ⟨B, 0, none⟩ = some (.bool false)) (g5 : w3.cell? ⟨B, 1, none⟩ = some (.slice none 0 0)) (g6 : w3.frozen? ⟨B, 0, none⟩ = false) (g7 : w3.frozen? ⟨B, 1, none⟩ = false)
    (hown : w3.ownsRow (B + 2) 47 1 v' (ds.length + 1) (vals ds ++ [.int .u64 z])) (hz : z = (d : Int)) : OfBox (w3.setCell ⟨B + 1, 1, none⟩ v') B s v' (ds ++ [d]) := by
  refine ⟨by simpa [World.setCell] using g0, ?_, World.cell?_setCell_same _ _ _ g2, ?_, ?_, ?_, ?_, ?_, ?_⟩
  · rw [World.cell?_setCell_other _ _ _ _ (by simp)]; exact g1
  · rw [World.frozen?_setCell]; exact g3
  · rw [World.cell?_setCell_other _ _ _ _ (by simp)]; exact g4
  · rw [World.cell?_setCell_other _ _ _ _ (by simp)]; exact g5
  · rw [World.frozen?_setCell]; exact g6
  · rw [World.frozen?_setCell]; exact g7
  · rw [vals_snoc hz, List.length_append]; exact ownsRow_setCell_below hown (by simp) _

set_option maxHeartbeats 4000000 in
theorem refOfP (n : Nat) (hn : n ≤ 9223372036854775807) (w : World) :
    Calls Try.prog 42 #[.int .i64 ((n : Int))] w fun e w' =>
      (∃ c cc rs, e = .returned (.agg #[.bool false, .slice c rs.length cc]) ∧ Row w' c cc rs ∧ val rs = n ∧ Trim rs ∧ rs.length ≤ 4 ∧ Fresh w.heap.size c) ∧ Below w.heap.size w w' := by
  obtain ⟨i0, hi, hz0, hz1, hz2⟩ := info_parts info_u64
  have hsgn : decide ((n : Int) < 0) = false := by exact decide_eq_false (by omega)
  go_enter Try.func42, Try.ntmps42
  go_wp2
  go_loopw [0] (fun t W => ∃ (m : Nat) (ds : List Nat) (v : Value), t = .int .i64 ((m : Int)) ∧ n = val ds + 65536 ^ ds.length * m ∧ (∀ d ∈ ds, d < 65536) ∧ (m = 0 → Trim ds) ∧ OfBox W w.heap.size false v ds ∧ Below w.heap.size w W) (fun t _ => (intOf t).natAbs)
  case atStart => exact ⟨n, [], _, rfl, by simp [val], by simp, fun _ => .inl rfl, OfBox.start w false, ((Below.refl _ _).alloc (Nat.le_refl _) _).alloc (by simp) _⟩
  case round =>
    obtain ⟨m, ds, v, rfl, hv, hd, ht, hbx, hB⟩ := hrel
    have c0 := hbx.c0; have c1 := hbx.c1; have f1 := hbx.f1; have r0 := hbx.r0; have r1 := hbx.r1; have fr0 := hbx.fr0; have fr1 := hbx.fr1
    have HV : Hid _ := hv
    by_cases h0 : m = 0
    · subst h0
      have hT := ht rfl
      have own2 := ownsRow_setCell_below (ownsRow_setCell_below hbx.own (a := ⟨w.heap.size, 0, none⟩) (by simp) (.bool false)) (a := ⟨w.heap.size, 1, none⟩) (by simp) v
      obtain ⟨a', cap', rfl, hrow, hfr⟩ := row_of_owns own2 hd
      obtain ⟨t0, t1⟩ := two_newD (x := .bool false) (y := .slice a' ds.length cap') r0 r1
      have hlen : ds.length ≤ 4 := of_len hv hT hd (by omega)
      clear hv ht own2
      go_wp2
      refine bodyPost_ret (v := .agg #[.bool false, .slice a' ds.length cap']) ?_ rfl ⟨⟨a', cap', ds, rfl, hrow, ?_, hT, hlen, fun x hx => by have := hfr x hx; omega⟩, (hB.setCell (Nat.le_refl _) _).setCell (Nat.le_refl _) _⟩
      · simp [results, Try.results42, go_sem, t0, t1]
      · have := HV.out; omega
    · have hne : ((m : Int) != 0) = true := by rw [bne_iff_ne]; omega
      have hlen : ds.length ≤ 3 := len3 hv (by omega) (by omega)
      have hm : m ≤ 9223372036854775807 := by
        have : 1 * m ≤ 65536 ^ ds.length * m := Nat.mul_le_mul_right _ (pow_pos' _)
        omega
      have hsz := hbx.lt
      
      
      obtain ⟨d, ed⟩ : ∃ d, m % 65536 = d := ⟨_, rfl⟩
      have hdl : d < 65536 := by omega
      have hfin := of_alg (d := d) hv ed
      have HF : Hid _ := hfin
      have htr : m / 65536 = 0 → Trim (ds ++ [d]) := fun hq => .inr ⟨ds, d, rfl, by omega⟩
      have HT : Hid _ := htr
      
      have hmi : (m : Int) % 65536 = (d : Int) := by omega
      have hmq : (m : Int) / 65536 = ((m / 65536 : Nat) : Int) := by omega
      have hmlt : m / 65536 < m := by omega
      have HQ : Hid _ := hmq
      clear hv ht ed hfin htr hmq
      go_wp2_with (at_builtin; refine wpList_append_lies _ rfl _ _ 41 rfl (w.heap.size + 2) 47 i0 (.int .u64 0) 1 8 Try.underlying41 hi hz0 hz1 hz2 rfl (by decide) _ _ _ rfl (hbx.own.alloc _) ⟨wr.heap.size, 0, none⟩ 1 1 [.int .u64 (d : Int)] rfl rfl (cell_new1 _ _ _) (fun u hu => by simp at hu; subst hu; rfl) (by omega) (by unfold maxLen; omega) (by omega) (by simp; omega) (wr.heap.size + 1) (by simp) ?_; intro g cap w3 hown' hgrow hat hglt; obtain ⟨g0, g1, g2, g3, g4, g5, g6, g7⟩ := hbx.grown hgrow)
      exact ⟨⟨m / 65536, ds ++ [d], .slice (some ⟨g, 0, none⟩) (ds.length + 1) cap, by rw [HQ.out], HF.out, snoc_digits hd hdl, HT.out, of_store g0 g1 g2 g3 g4 g5 g6 g7 hown' rfl, (Below.grown (hB.alloc hB.size _) hgrow (by simp; omega) (fun j hj => by have := (hbx.own.lt _ hj).1; omega)).setCell (by simp) _⟩, by simp [intOf]; omega⟩

set_option maxHeartbeats 4000000 in
theorem refOfN (n : Nat) (hn : n ≤ 9223372036854775808) (hn0 : 0 < n) (w : World) :
    Calls Try.prog 42 #[.int .i64 (-(n : Int))] w fun e w' =>
      (∃ c cc rs, e = .returned (.agg #[.bool true, .slice c rs.length cc]) ∧ Row w' c cc rs ∧ val rs = n ∧ Trim rs ∧ rs.length ≤ 4 ∧ Fresh w.heap.size c) ∧ Below w.heap.size w w' := by
  obtain ⟨i0, hi, hz0, hz1, hz2⟩ := info_parts info_u64
  have hsgn : decide (-(n : Int) < 0) = true := by exact decide_eq_true (by omega)
  go_enter Try.func42, Try.ntmps42
  go_wp2
  go_loopw [0] (fun t W => ∃ (m : Nat) (ds : List Nat) (v : Value), t = .int .i64 (-(m : Int)) ∧ n = val ds + 65536 ^ ds.length * m ∧ (∀ d ∈ ds, d < 65536) ∧ (m = 0 → Trim ds) ∧ OfBox W w.heap.size true v ds ∧ Below w.heap.size w W) (fun t _ => (intOf t).natAbs)
  case atStart => exact ⟨n, [], _, rfl, by simp [val], by simp, fun _ => .inl rfl, OfBox.start w true, ((Below.refl _ _).alloc (Nat.le_refl _) _).alloc (by simp) _⟩
  case round =>
    obtain ⟨m, ds, v, rfl, hv, hd, ht, hbx, hB⟩ := hrel
    have c0 := hbx.c0; have c1 := hbx.c1; have f1 := hbx.f1; have r0 := hbx.r0; have r1 := hbx.r1; have fr0 := hbx.fr0; have fr1 := hbx.fr1
    have HV : Hid _ := hv
    by_cases h0 : m = 0
    · subst h0
      have hT := ht rfl
      have own2 := ownsRow_setCell_below (ownsRow_setCell_below hbx.own (a := ⟨w.heap.size, 0, none⟩) (by simp) (.bool true)) (a := ⟨w.heap.size, 1, none⟩) (by simp) v
      obtain ⟨a', cap', rfl, hrow, hfr⟩ := row_of_owns own2 hd
      obtain ⟨t0, t1⟩ := two_newD (x := .bool true) (y := .slice a' ds.length cap') r0 r1
      have hlen : ds.length ≤ 4 := of_len hv hT hd (by omega)
      clear hv ht own2
      go_wp2
      refine bodyPost_ret (v := .agg #[.bool true, .slice a' ds.length cap']) ?_ rfl ⟨⟨a', cap', ds, rfl, hrow, ?_, hT, hlen, fun x hx => by have := hfr x hx; omega⟩, (hB.setCell (Nat.le_refl _) _).setCell (Nat.le_refl _) _⟩
      · simp [results, Try.results42, go_sem, t0, t1]
      · have := HV.out; omega
    · have hne : (-(m : Int) != 0) = true := by rw [bne_iff_ne]; omega
      have hlen : ds.length ≤ 3 := len3 hv (by omega) (by omega)
      have hm : m ≤ 9223372036854775808 := by
        have : 1 * m ≤ 65536 ^ ds.length * m := Nat.mul_le_mul_right _ (pow_pos' _)
        omega
      have hsz := hbx.lt
      have hmod : (-(m : Int)).tmod 65536 = -(((m % 65536 : Nat) : Int)) := by rw [Int.neg_tmod, Int.tmod_eq_emod_of_nonneg (by omega)]; omega
      have hdiv : (-(m : Int)).tdiv 65536 = -(((m / 65536 : Nat) : Int)) := by rw [Int.neg_tdiv, Int.tdiv_eq_ediv_of_nonneg (by omega)]; omega
      obtain ⟨d, ed⟩ : ∃ d, m % 65536 = d := ⟨_, rfl⟩
      have hdl : d < 65536 := by omega
      have hfin := of_alg (d := d) hv ed
      have HF : Hid _ := hfin
      have htr : m / 65536 = 0 → Trim (ds ++ [d]) := fun hq => .inr ⟨ds, d, rfl, by omega⟩
      have HT : Hid _ := htr
      rw [ed] at hmod
      have hmi : (m : Int) % 65536 = (d : Int) := by omega
      have hmq : (m : Int) / 65536 = ((m / 65536 : Nat) : Int) := by omega
      have hmlt : m / 65536 < m := by omega
      have HQ : Hid _ := hmq
      clear hv ht ed hfin htr hmq
      by_cases hd0 : d = 0
      · subst hd0
        go_wp2_with (at_builtin; refine wpList_append_lies _ rfl _ _ 41 rfl (w.heap.size + 2) 47 i0 (.int .u64 0) 1 8 Try.underlying41 hi hz0 hz1 hz2 rfl (by decide) _ _ _ rfl (hbx.own.alloc _) ⟨wr.heap.size, 0, none⟩ 1 1 [.int .u64 0] rfl rfl (cell_new1 _ _ _) (fun u hu => by simp at hu; subst hu; rfl) (by omega) (by unfold maxLen; omega) (by omega) (by simp; omega) (wr.heap.size + 1) (by simp) ?_; intro g cap w3 hown' hgrow hat hglt; obtain ⟨g0, g1, g2, g3, g4, g5, g6, g7⟩ := hbx.grown hgrow)
        exact ⟨⟨m / 65536, ds ++ [0], .slice (some ⟨g, 0, none⟩) (ds.length + 1) cap, by rw [HQ.out], HF.out, snoc_digits hd hdl, HT.out, of_store g0 g1 g2 g3 g4 g5 g6 g7 hown' rfl, (Below.grown (hB.alloc hB.size _) hgrow (by simp; omega) (fun j hj => by have := (hbx.own.lt _ hj).1; omega)).setCell (by simp) _⟩, by simp [intOf]; omega⟩
      · have hd1 : (0 : Int) < (d : Int) := by omega
        go_wp2_with (at_builtin; refine wpList_append_lies _ rfl _ _ 41 rfl (w.heap.size + 2) 47 i0 (.int .u64 0) 1 8 Try.underlying41 hi hz0 hz1 hz2 rfl (by decide) _ _ _ rfl (hbx.own.alloc _) ⟨wr.heap.size, 0, none⟩ 1 1 [.int .u64 (d : Int)] rfl rfl (cell_new1 _ _ _) (fun u hu => by simp at hu; subst hu; rfl) (by omega) (by unfold maxLen; omega) (by omega) (by simp; omega) (wr.heap.size + 1) (by simp) ?_; intro g cap w3 hown' hgrow hat hglt; obtain ⟨g0, g1, g2, g3, g4, g5, g6, g7⟩ := hbx.grown hgrow)
        exact ⟨⟨m / 65536, ds ++ [d], .slice (some ⟨g, 0, none⟩) (ds.length + 1) cap, by rw [HQ.out], HF.out, snoc_digits hd hdl, HT.out, of_store g0 g1 g2 g3 g4 g5 g6 g7 hown' rfl, (Below.grown (hB.alloc hB.size _) hgrow (by simp; omega) (fun j hj => by have := (hbx.own.lt _ hj).1; omega)).setCell (by simp) _⟩, by simp [intOf]; omega⟩
end Go.Proofs.Ytfgbkmcbpmmfdaa
