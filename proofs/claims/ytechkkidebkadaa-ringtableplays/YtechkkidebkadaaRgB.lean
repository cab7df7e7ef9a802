/- Layer 2 (ring): the contracts of Ring[string]: New, Len, At, Push. -/
import Derived.Test.YtechkkidebkadaaRgA
namespace Go.Proofs.Ytechkkidebkadaa
open Go.RowKit
set_option linter.unusedVariables false
attribute [local go_sem ↓] Go.wp_at_zero Go.wp_at_succ

theorem atLeastOne (m : Int) (w : World) :
    Calls Try.prog 42 #[.int .i64 m] w fun e w' => e = .returned (.int .i64 (max m 1)) ∧ w' = w := by
  go_enter Try.func42, Try.ntmps42
  go_wp2
  all_goals go_ret
  all_goals exact ⟨ret_int (by omega), rfl⟩

/-- A ring that has these things, the first one first. -/
def RingAt (T E : TypeId) (w : World) (S : Nat → Prop) (b m : Nat) (xs : List Value) : Prop :=
  ∃ (f : Nat) (v : Value) (ys : List Value), Box T E 1 w S b m ys.length ys f v ∧ 1 ≤ m ∧ m ≤ 1000 ∧ ys.length ≤ m ∧ (f = 0 ∨ (ys.length = m ∧ f < m)) ∧ xs = ys.drop f ++ ys.take f
theorem RingAt.keep {T E : TypeId} {w w' : World} {S S' : Nat → Prop} {b m : Nat} {xs : List Value} (h : RingAt T E w S b m xs) (hf : Fr S' w w') (hd : ∀ k, S k → ¬ S' k) : RingAt T E w' S b m xs := by
  obtain ⟨f, v, ys, hb, r⟩ := h
  exact ⟨f, v, ys, hb.keep hf hd, r⟩
theorem RingAt.len {T E : TypeId} {w : World} {S : Nat → Prop} {b m : Nat} {xs : List Value} (h : RingAt T E w S b m xs) : xs.length ≤ m ∧ m ≤ 1000 ∧ 1 ≤ m := by
  obtain ⟨f, v, ys, hb, h1, h2, h3, h4, rfl⟩ := h
  refine ⟨?_, h2, h1⟩
  simp only [List.length_append, List.length_drop, List.length_take]
  omega
theorem RingAt.lt {T E : TypeId} {w : World} {S : Nat → Prop} {b m : Nat} {xs : List Value} (h : RingAt T E w S b m xs) : ∀ k, S k → k < w.heap.size := by
  obtain ⟨f, v, ys, hb, _⟩ := h
  exact hb.lt
theorem ring_new (T E : TypeId) (w : World) (m : Nat) (h1 : 1 ≤ m) (h2 : m ≤ 1000) : RingAt T E (w.alloc (.cells #[.int .i64 m, .slice none 0 0, .int .i64 0] T)) (fun k => k = w.heap.size) w.heap.size m [] := by
  refine ⟨0, .slice none 0 0, [], ⟨?_, World.ownsRow_nil _ _ _ _, rfl, by simp [Value.ownBlock], by simp, by simp⟩, h1, h2, by simp, .inl rfl, rfl⟩
  exact heap_alloc_new w _
theorem rot_getElem {ys : List Value} {f i : Nat} (hf : f ≤ ys.length) (hi : i < ys.length) : (ys.drop f ++ ys.take f)[i]? = ys[(f + i) % ys.length]? := by
  by_cases h : f + i < ys.length
  · rw [Nat.mod_eq_of_lt h, List.getElem?_append_left (by simp; omega), List.getElem?_drop]
  · rw [List.getElem?_append_right (by simp; omega), List.getElem?_take, List.length_drop, if_pos (by omega)]
    congr 1
    rw [show f + i = (f + i - ys.length) + ys.length from by omega, Nat.add_mod_right, Nat.mod_eq_of_lt (by omega)]
    omega

theorem newS (m : Int) (w : World) :
    Calls Try.prog 18 #[.int .i64 m] w fun e w' => e = .returned (.pointer (some ⟨w.heap.size, 0, none⟩)) ∧ w' = w.alloc (.cells #[.int .i64 (max m 1), .slice none 0 0, .int .i64 0] 85) := by
  go_enter Try.func18, Try.ntmps18
  go_wp2_with (go_at_call 42; refine (atLeastOne _ _).mono ?_; rintro e w' ⟨rfl, rfl⟩)
  go_ret
  exact ⟨rfl, rfl⟩

theorem lenS (S : Nat → Prop) (b m : Nat) (xs : List Value) (w : World) (h : RingAt 85 9 w S b m xs) :
    Calls Try.prog 20 #[.pointer (some ⟨b, 0, none⟩)] w fun e w' => e = .returned (.int .i64 (xs.length : Nat)) ∧ w' = w := by
  obtain ⟨f, v, ys, hb, h1, h2, h3, h4, rfl⟩ := h
  obtain ⟨c0, c1, c2, hlt⟩ := hb.cells
  obtain ⟨a, cap, rfl, _, _⟩ := hb.form
  have e : (ys.drop f ++ ys.take f).length = ys.length := by simp only [List.length_append, List.length_drop, List.length_take]; omega
  rw [e]
  clear e
  go_enter Try.func20, Try.ntmps20
  go_wp2
  go_ret
  exact ⟨rfl, rfl⟩

theorem atS_no (S : Nat → Prop) (b m : Nat) (xs : List Value) (i : Int) (w : World) (h : RingAt 85 9 w S b m xs) (hi : i < 0 ∨ (xs.length : Int) ≤ i) :
    Calls Try.prog 21 #[.pointer (some ⟨b, 0, none⟩), .int .i64 i] w fun e w' => e = .returned (.tuple #[.string ⟨#[]⟩, .bool false]) ∧ w' = w := by
  obtain ⟨f, v, ys, hb, h1, h2, h3, h4, rfl⟩ := h
  obtain ⟨c0, c1, c2, hlt⟩ := hb.cells
  obtain ⟨a, cap, rfl, _, _⟩ := hb.form
  have e : (ys.drop f ++ ys.take f).length = ys.length := by simp only [List.length_append, List.length_drop, List.length_take]; omega
  rw [e] at hi
  clear e hb
  by_cases h0 : i < 0
  · go_enter Try.func21, Try.ntmps21
    go_wp2
    go_ret2
    exact ⟨rfl, rfl⟩
  · have h5 : (ys.length : Int) ≤ i := by omega
    clear hi
    go_enter Try.func21, Try.ntmps21
    go_wp2
    go_ret2
    exact ⟨rfl, rfl⟩

set_option maxHeartbeats 1000000 in
theorem atS_yes (S : Nat → Prop) (b m : Nat) (xs : List Value) (i : Nat) (x : Value) (w : World) (h : RingAt 85 9 w S b m xs) (hi : xs[i]? = some x) :
    Calls Try.prog 21 #[.pointer (some ⟨b, 0, none⟩), .int .i64 i] w fun e w' => e = .returned (.tuple #[x, .bool true]) ∧ Below w.heap.size w w' := by
  obtain ⟨f, v, ys, hb, h1, h2, h3, h4, rfl⟩ := h
  obtain ⟨c0, c1, c2, hlt⟩ := hb.cells
  have hil : i < ys.length := by
    obtain ⟨hl, _⟩ := List.getElem?_eq_some_iff.1 hi
    simp only [List.length_append, List.length_drop, List.length_take] at hl
    omega
  rw [rot_getElem (by omega) hil] at hi
  obtain ⟨g, cap, rfl, _, hcm, _, _, _, hcs, _⟩ := hb.at (j := i) hil
  have hml : (f + i) % ys.length < ys.length := Nat.mod_lt _ (by omega)
  obtain ⟨_, hx⟩ := List.getElem?_eq_some_iff.1 hi
  have hc := hcs _ hml
  rw [hx] at hc
  clear hcs hi hx hb
  obtain ⟨r, hr⟩ : ∃ r, (f + i) % ys.length = r := ⟨_, rfl⟩
  rw [hr] at hc hml
  have e2 : ((f : Int) + (i : Int)).tmod (ys.length : Int) = (r : Int) := by rw [← hr, Int.tmod_eq_emod_of_nonneg (by omega), Int.natCast_emod, Int.natCast_add]
  have e3 : ((f : Int) + (i : Int)) % (ys.length : Int) = (r : Int) := by rw [← hr, Int.natCast_emod, Int.natCast_add]
  have e4 : (0 : Int) < (ys.length : Int) := by omega
  have e5 : ((ys.length : Int) == 0) = false := beq_eq_false_iff_ne.2 (by omega)
  have e6 : (r : Int) < (ys.length : Int) := by omega
  clear hr
  unfold maxLen at hcm
  go_enter Try.func21, Try.ntmps21
  go_wp2_with fail
  go_quiet (fail)
  go_wp2
  go_ret2
  exact ⟨rfl, below_drewN _ _⟩
theorem info_S : (Try.prog.info? 9).map (fun i => (i.zero, i.size, i.bytes)) = some (some (.string ⟨#[]⟩), 1, 16) := by kernel_rfl
theorem rot_push {ys : List Value} {f : Nat} {x : Value} (hf : f < ys.length) : (ys.set f x).drop ((f + 1) % ys.length) ++ (ys.set f x).take ((f + 1) % ys.length) = (ys.drop f ++ ys.take f).tail ++ [x] := by
  by_cases h : f + 1 = ys.length
  · rw [h, Nat.mod_self, List.drop_zero, List.take_zero, List.append_nil]
    have e : ys.drop f = [ys[f]] := by rw [List.drop_eq_getElem_cons hf, h, List.drop_length]
    rw [e]
    simp only [List.cons_append, List.nil_append, List.tail_cons]
    rw [List.set_eq_take_append_cons_drop, if_pos hf, h, List.drop_length]
  · rw [Nat.mod_eq_of_lt (by omega), List.drop_eq_getElem_cons hf]
    simp only [List.cons_append, List.tail_cons, List.append_assoc]
    rw [List.drop_set_of_lt (by omega)]
    congr 1
    rw [List.take_set, List.take_succ_eq_append_getElem hf, List.set_append_right _ _ (by simp; omega), List.length_take]
    simp [Nat.min_eq_left (Nat.le_of_lt hf)]
theorem ring_of_room {T E : TypeId} {w : World} {S : Nat → Prop} {b m : Nat} {ys : List Value} {x v : Value} (h : Box T E 1 w S b m (ys.length + 1) (ys ++ [x]) 0 v) (h1 : 1 ≤ m) (h2 : m ≤ 1000) (h3 : ys.length < m) : RingAt T E w S b m (ys.drop 0 ++ ys.take 0 ++ [x]) := by
  refine ⟨0, v, ys ++ [x], ?_, h1, h2, by rw [List.length_append]; simp; omega, .inl rfl, by simp⟩
  rw [List.length_append]
  exact h
theorem ones_snoc {ys : List Value} {x : Value} (h : ∀ u ∈ ys, u.oneCell' = true) (h1 : x.oneCell' = true) : ∀ u ∈ ys ++ [x], u.oneCell' = true := by
  intro u hu
  rcases List.mem_append.1 hu with hu | hu
  · exact h u hu
  · rw [List.mem_singleton] at hu; subst hu; exact h1
set_option maxRecDepth 100000 in
set_option maxHeartbeats 1000000 in
/-- There is room. -/
theorem pushS_room (S : Nat → Prop) (b m : Nat) (xs : List Value) (s : ByteArray) (w : World) (h : RingAt 85 9 w S b m xs) (hr : xs.length < m) :
    Calls Try.prog 19 #[.pointer (some ⟨b, 0, none⟩), .string s] w fun e w' => e = .returned (.tuple #[.string ⟨#[]⟩, .bool false]) ∧ ∃ S', RingAt 85 9 w' S' b m (xs ++ [.string s]) ∧ Fr S w w' ∧ Sub w S S' := by
  obtain ⟨f, v, ys, hb, hm1, hm2, h3, h4, rfl⟩ := h
  have hlen : (ys.drop f ++ ys.take f).length = ys.length := by simp only [List.length_append, List.length_drop, List.length_take]; omega
  rw [hlen] at hr
  obtain rfl : f = 0 := by omega
  clear hlen h4
  obtain ⟨c0, c1, c2, hlt⟩ := hb.cells
  have HB : Hid _ := hb
  have HO : Hid _ := hb.own
  obtain ⟨a, cap, rfl, _, hcm⟩ := hb.form
  have hr' : (ys.length : Int) < (m : Int) := by omega
  unfold maxLen at hcm
  obtain ⟨i0, hi, hz0, hz1, hz2⟩ := info_parts info_S
  clear hb
  go_enter Try.func19, Try.ntmps19
  go_wp2_with fail
  go_quiet (fail)
  go_wp2_with (at_builtin; refine wpList_append_lies _ rfl _ _ 36 rfl 0 9 i0 (.string ⟨#[]⟩) 1 16 Try.underlying36 hi hz0 hz1 hz2 rfl (by decide) _ ys.length ys rfl ((HB.out.drewN _).own.alloc _) ⟨w.heap.size, 0, none⟩ 1 1 [.string s] rfl rfl (World.news_of_block (heap_alloc_new _ _)) (by intro u hu; rw [List.mem_singleton] at hu; subst hu; rfl) (by decide) (by unfold maxLen; omega) (by omega) (Nat.zero_le _) (w.heap.size + 1) (by simp) ?_; intro g cap' w1 hown' hgrow hat hglt; obtain ⟨d0, d1, d2, d3⟩ := HB.out.grown_cells (Fr.start_alloc _ _ _ _) hgrow; have HG : Hid _ := HB.out.grown (Fr.start_alloc _ _ _ _) hgrow hown' (own_new hat (Nat.le_succ _)) (ones_snoc HB.out.one rfl); clear hat hown' hgrow hglt)
  go_ret2
  obtain ⟨h5, h6⟩ := HG.out
  exact ⟨rfl, _, ring_of_room h5 hm1 hm2 hr, h6, fun k (hk : S k ∨ (w.heap.size ≤ k ∧ k < w1.heap.size)) => hk.imp id (fun e => e.1)⟩
theorem ring_of_full {T E : TypeId} {w : World} {S : Nat → Prop} {b m f : Nat} {ys : List Value} {x v : Value} (h : Box T E 1 w S b m ys.length (ys.set f x) ((f + 1) % ys.length : Nat) v) (h1 : 1 ≤ m) (h2 : m ≤ 1000) (h3 : ys.length = m) (hf : f < ys.length) : RingAt T E w S b m ((ys.drop f ++ ys.take f).tail ++ [x]) := by
  refine ⟨(f + 1) % ys.length, v, ys.set f x, by rw [List.length_set]; exact h, h1, h2, by rw [List.length_set]; omega, .inr ⟨by rw [List.length_set]; exact h3, ?_⟩, (rot_push hf).symm⟩
  rw [← h3]; exact Nat.mod_lt _ (by omega)
theorem full_set {W : World} {b g f n cap : Nat} (hgb : g ≠ b) (h : W.cell? ⟨b, 1, none⟩ = some (.slice (some ⟨g, 0, none⟩) n cap) ∧ W.cell? ⟨b, 2, none⟩ = some (.int .i64 f) ∧ W.cell? ⟨g, f, none⟩ = some (rd W g f) ∧ W.frozen? ⟨g, f, none⟩ = false) (u : Value) :
    (W.setCell ⟨g, f, none⟩ u).cell? ⟨b, 1, none⟩ = some (.slice (some ⟨g, 0, none⟩) n cap) ∧ (W.setCell ⟨g, f, none⟩ u).cell? ⟨b, 2, none⟩ = some (.int .i64 f) ∧ (W.setCell ⟨g, f, none⟩ u).cell? ⟨g, f, none⟩ = some (rd (W.setCell ⟨g, f, none⟩ u) g f) ∧ (W.setCell ⟨g, f, none⟩ u).frozen? ⟨g, f, none⟩ = false := by
  obtain ⟨h1, h2, h3, h4⟩ := h
  refine ⟨by rw [cell_set_other _ hgb]; exact h1, by rw [cell_set_other _ hgb]; exact h2, ?_, by rw [frozen_set]; exact h4⟩
  exact rd_of (World.cell?_setCell_same' _ _ _ (by rw [h3]; rfl))
set_option maxRecDepth 100000 in
set_option maxHeartbeats 1000000 in
/-- It is full. -/
theorem pushS_full (S : Nat → Prop) (b m : Nat) (xs : List Value) (s : ByteArray) (x : Value) (w : World) (h : RingAt 85 9 w S b m xs) (hr : xs.length = m) (hx : xs.head? = some x) :
    Calls Try.prog 19 #[.pointer (some ⟨b, 0, none⟩), .string s] w fun e w' => e = .returned (.tuple #[x, .bool true]) ∧ RingAt 85 9 w' S b m (xs.tail ++ [.string s]) ∧ Fr S w w' := by
  obtain ⟨f, v, ys, hb, hm1, hm2, h3, h4, rfl⟩ := h
  have hlen : (ys.drop f ++ ys.take f).length = ys.length := by simp only [List.length_append, List.length_drop, List.length_take]; omega
  rw [hlen] at hr
  have hf : f < ys.length := by omega
  subst hr
  clear hlen h4
  obtain ⟨c0, c1, c2, hlt⟩ := hb.cells
  have HB : Hid _ := hb
  have fz := hb.thaw 2
  obtain ⟨g, cap, rfl, _, hcm, hgb, hSg, _, hcs, hfs⟩ := hb.at (j := f) hf
  have hxf : x = ys[f] := by
    rw [List.drop_eq_getElem_cons hf, List.cons_append, List.head?_cons] at hx
    exact (Option.some.inj hx).symm
  subst hxf
  have hc := hcs f hf
  have hfr := hfs f hf
  obtain ⟨x, hx'⟩ : ∃ x, ys[f] = x := ⟨_, rfl⟩
  rw [hx'] at hc ⊢
  have hr' : ¬ (ys.length : Int) < (ys.length : Int) := by omega
  unfold maxLen at hcm
  have hfi : (f : Int) < (ys.length : Int) := by omega
  have n1 := World.new_ne
  clear hb hcs hfs hx hx'
  go_enter Try.func19, Try.ntmps19
  go_wp2_with fail
  go_quiet (fail)
  go_wp2_with fail
  go_region
  have hb1 := (HB.out.drewN (nq + 1)).setRow hf (.string s) rfl
  have hF1 : Fr S w ((w.drewN (nq + 1)).setCell ⟨g, f, none⟩ (.string s)) := ((Fr.refl S w).drewN _).setCell (p := ⟨g, f, none⟩) hSg _
  generalize (w.drewN (nq + 1)).setCell ⟨g, f, none⟩ (.string s) = W1 at *
  obtain ⟨c0, c1, c2, hlt⟩ := hb1.cells
  have fz := hb1.thaw 2
  have HB1 : Hid _ := hb1
  clear hb1 hc hfr n1
  obtain ⟨r, hr⟩ : ∃ r, (f + 1) % ys.length = r := ⟨_, rfl⟩
  have e2 : ((f : Int) + 1).tmod (ys.length : Int) = (r : Int) := by rw [← hr, Int.tmod_eq_emod_of_nonneg (by omega), Int.natCast_emod, Int.natCast_add]; rfl
  have e3 : ((f : Int) + 1) % (ys.length : Int) = (r : Int) := by rw [← hr, Int.natCast_emod, Int.natCast_add]; rfl
  have e4 : (0 : Int) < (ys.length : Int) := by omega
  have e5 : ((ys.length : Int) == 0) = false := beq_eq_false_iff_ne.2 (by omega)
  have HR : Hid _ := hr
  clear hr
  go_wp2_with fail
  go_region
  go_wp2
  go_ret2
  have hb2 := (HB1.out.drewN 1).setThird (r : Int)
  refine ⟨rfl, ring_of_full (f := f) (x := .string s) (v := .slice (some ⟨g, 0, none⟩) ys.length cap) ?_ hm1 hm2 rfl hf, ?_⟩
  · rw [HR.out]; exact hb2
  · exact hF1.drew.setCell (p := ⟨b, 2, none⟩) HB1.out.inb _
end Go.Proofs.Ytechkkidebkadaa
