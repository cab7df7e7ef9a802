/- Layer 2 (ring): the contracts of Ring[int]: New, Len, At, Push. -/
import Derived.Test.YtechkkidebkadaaRgB
namespace Go.Proofs.Ytechkkidebkadaa
open Go.RowKit
set_option linter.unusedVariables false
attribute [local go_sem ↓] Go.wp_at_zero Go.wp_at_succ

theorem newI (m : Int) (w : World) :
    Calls Try.prog 12 #[.int .i64 m] w fun e w' => e = .returned (.pointer (some ⟨w.heap.size, 0, none⟩)) ∧ w' = w.alloc (.cells #[.int .i64 (max m 1), .slice none 0 0, .int .i64 0] 82) := by
  go_enter Try.func12, Try.ntmps12
  go_wp2_with (go_at_call 42; refine (atLeastOne _ _).mono ?_; rintro e w' ⟨rfl, rfl⟩)
  go_ret
  exact ⟨rfl, rfl⟩

theorem lenI (S : Nat → Prop) (b m : Nat) (xs : List Value) (w : World) (h : RingAt 82 3 w S b m xs) :
    Calls Try.prog 15 #[.pointer (some ⟨b, 0, none⟩)] w fun e w' => e = .returned (.int .i64 (xs.length : Nat)) ∧ w' = w := by
  obtain ⟨f, v, ys, hb, h1, h2, h3, h4, rfl⟩ := h
  obtain ⟨c0, c1, c2, hlt⟩ := hb.cells
  obtain ⟨a, cap, rfl, _, _⟩ := hb.form
  have e : (ys.drop f ++ ys.take f).length = ys.length := by simp only [List.length_append, List.length_drop, List.length_take]; omega
  rw [e]
  clear e
  go_enter Try.func15, Try.ntmps15
  go_wp2
  go_ret
  exact ⟨rfl, rfl⟩

theorem atI_no (S : Nat → Prop) (b m : Nat) (xs : List Value) (i : Int) (w : World) (h : RingAt 82 3 w S b m xs) (hi : i < 0 ∨ (xs.length : Int) ≤ i) :
    Calls Try.prog 16 #[.pointer (some ⟨b, 0, none⟩), .int .i64 i] w fun e w' => e = .returned (.tuple #[.int .i64 0, .bool false]) ∧ w' = w := by
  obtain ⟨f, v, ys, hb, h1, h2, h3, h4, rfl⟩ := h
  obtain ⟨c0, c1, c2, hlt⟩ := hb.cells
  obtain ⟨a, cap, rfl, _, _⟩ := hb.form
  have e : (ys.drop f ++ ys.take f).length = ys.length := by simp only [List.length_append, List.length_drop, List.length_take]; omega
  rw [e] at hi
  clear e hb
  by_cases h0 : i < 0
  · go_enter Try.func16, Try.ntmps16
    go_wp2
    go_ret2
    exact ⟨rfl, rfl⟩
  · have h5 : (ys.length : Int) ≤ i := by omega
    clear hi
    go_enter Try.func16, Try.ntmps16
    go_wp2
    go_ret2
    exact ⟨rfl, rfl⟩

set_option maxHeartbeats 1000000 in
theorem atI_yes (S : Nat → Prop) (b m : Nat) (xs : List Value) (i : Nat) (x : Value) (w : World) (h : RingAt 82 3 w S b m xs) (hi : xs[i]? = some x) :
    Calls Try.prog 16 #[.pointer (some ⟨b, 0, none⟩), .int .i64 i] w fun e w' => e = .returned (.tuple #[x, .bool true]) ∧ Below w.heap.size w w' := by
  obtain ⟨f, v, ys, hb, h1, h2, h3, h4, rfl⟩ := h
  obtain ⟨c0, c1, c2, hlt⟩ := hb.cells
  have hil : i < ys.length := by
    obtain ⟨hl, _⟩ := List.getElem?_eq_some_iff.1 hi
    simp only [List.length_append, List.length_drop, List.length_take] at hl
    omega
  rw [rot_getElem (by omega) hil] at hi
  obtain ⟨g, cap, rfl, _, hcm, _, _, _, hcs, _⟩ := hb.at (j := i) hil
  have hml : (f + i) % ys.length < ys.length := Nat.mod_lt _ (by omega)
  obtain ⟨_, hx⟩ := List.getElem?_eq_some_iff.1 hi
  have hc := hcs _ hml
  rw [hx] at hc
  clear hcs hi hx hb
  obtain ⟨r, hr⟩ : ∃ r, (f + i) % ys.length = r := ⟨_, rfl⟩
  rw [hr] at hc hml
  have e2 : ((f : Int) + (i : Int)).tmod (ys.length : Int) = (r : Int) := by rw [← hr, Int.tmod_eq_emod_of_nonneg (by omega), Int.natCast_emod, Int.natCast_add]
  have e3 : ((f : Int) + (i : Int)) % (ys.length : Int) = (r : Int) := by rw [← hr, Int.natCast_emod, Int.natCast_add]
  have e4 : (0 : Int) < (ys.length : Int) := by omega
  have e5 : ((ys.length : Int) == 0) = false := beq_eq_false_iff_ne.2 (by omega)
  have e6 : (r : Int) < (ys.length : Int) := by omega
  clear hr
  unfold maxLen at hcm
  go_enter Try.func16, Try.ntmps16
  go_wp2_with fail
  go_quiet (fail)
  go_wp2
  go_ret2
  exact ⟨rfl, below_drewN _ _⟩
theorem info_I : (Try.prog.info? 3).map (fun i => (i.zero, i.size, i.bytes)) = some (some (.int .i64 0), 1, 8) := by kernel_rfl
set_option maxRecDepth 100000 in
set_option maxHeartbeats 1000000 in
/-- There is room. -/
theorem pushI_room (S : Nat → Prop) (b m : Nat) (xs : List Value) (s : Int) (w : World) (h : RingAt 82 3 w S b m xs) (hr : xs.length < m) :
    Calls Try.prog 13 #[.pointer (some ⟨b, 0, none⟩), .int .i64 s] w fun e w' => e = .returned (.tuple #[.int .i64 0, .bool false]) ∧ ∃ S', RingAt 82 3 w' S' b m (xs ++ [.int .i64 s]) ∧ Fr S w w' ∧ Sub w S S' := by
  obtain ⟨f, v, ys, hb, hm1, hm2, h3, h4, rfl⟩ := h
  have hlen : (ys.drop f ++ ys.take f).length = ys.length := by simp only [List.length_append, List.length_drop, List.length_take]; omega
  rw [hlen] at hr
  obtain rfl : f = 0 := by omega
  clear hlen h4
  obtain ⟨c0, c1, c2, hlt⟩ := hb.cells
  have HB : Hid _ := hb
  have HO : Hid _ := hb.own
  obtain ⟨a, cap, rfl, _, hcm⟩ := hb.form
  have hr' : (ys.length : Int) < (m : Int) := by omega
  unfold maxLen at hcm
  obtain ⟨i0, hi, hz0, hz1, hz2⟩ := info_parts info_I
  clear hb
  go_enter Try.func13, Try.ntmps13
  go_wp2_with fail
  go_quiet (fail)
  go_wp2_with (at_builtin; refine wpList_append_lies _ rfl _ _ 22 rfl 0 3 i0 (.int .i64 0) 1 8 Try.underlying22 hi hz0 hz1 hz2 rfl (by decide) _ ys.length ys rfl ((HB.out.drewN _).own.alloc _) ⟨w.heap.size, 0, none⟩ 1 1 [.int .i64 s] rfl rfl (World.news_of_block (heap_alloc_new _ _)) (by intro u hu; rw [List.mem_singleton] at hu; subst hu; rfl) (by decide) (by unfold maxLen; omega) (by omega) (Nat.zero_le _) (w.heap.size + 1) (by simp) ?_; intro g cap' w1 hown' hgrow hat hglt; obtain ⟨d0, d1, d2, d3⟩ := HB.out.grown_cells (Fr.start_alloc _ _ _ _) hgrow; have HG : Hid _ := HB.out.grown (Fr.start_alloc _ _ _ _) hgrow hown' (own_new hat (Nat.le_succ _)) (ones_snoc HB.out.one rfl); clear hat hown' hgrow hglt)
  go_ret2
  obtain ⟨h5, h6⟩ := HG.out
  exact ⟨rfl, _, ring_of_room h5 hm1 hm2 hr, h6, fun k (hk : S k ∨ (w.heap.size ≤ k ∧ k < w1.heap.size)) => hk.imp id (fun e => e.1)⟩
set_option maxRecDepth 100000 in
set_option maxHeartbeats 1000000 in
/-- It is full. -/
theorem pushI_full (S : Nat → Prop) (b m : Nat) (xs : List Value) (s : Int) (x : Value) (w : World) (h : RingAt 82 3 w S b m xs) (hr : xs.length = m) (hx : xs.head? = some x) :
    Calls Try.prog 13 #[.pointer (some ⟨b, 0, none⟩), .int .i64 s] w fun e w' => e = .returned (.tuple #[x, .bool true]) ∧ RingAt 82 3 w' S b m (xs.tail ++ [.int .i64 s]) ∧ Fr S w w' := by
  obtain ⟨f, v, ys, hb, hm1, hm2, h3, h4, rfl⟩ := h
  have hlen : (ys.drop f ++ ys.take f).length = ys.length := by simp only [List.length_append, List.length_drop, List.length_take]; omega
  rw [hlen] at hr
  have hf : f < ys.length := by omega
  subst hr
  clear hlen h4
  obtain ⟨c0, c1, c2, hlt⟩ := hb.cells
  have HB : Hid _ := hb
  have fz := hb.thaw 2
  obtain ⟨g, cap, rfl, _, hcm, hgb, hSg, _, hcs, hfs⟩ := hb.at (j := f) hf
  have hxf : x = ys[f] := by
    rw [List.drop_eq_getElem_cons hf, List.cons_append, List.head?_cons] at hx
    exact (Option.some.inj hx).symm
  subst hxf
  have hc := hcs f hf
  have hfr := hfs f hf
  obtain ⟨x, hx'⟩ : ∃ x, ys[f] = x := ⟨_, rfl⟩
  rw [hx'] at hc ⊢
  have hr' : ¬ (ys.length : Int) < (ys.length : Int) := by omega
  unfold maxLen at hcm
  have hfi : (f : Int) < (ys.length : Int) := by omega
  have n1 := World.new_ne
  clear hb hcs hfs hx hx'
  go_enter Try.func13, Try.ntmps13
  go_wp2_with fail
  go_quiet (fail)
  go_wp2_with fail
  go_region
  have hb1 := (HB.out.drewN (nq + 1)).setRow hf (.int .i64 s) rfl
  have hF1 : Fr S w ((w.drewN (nq + 1)).setCell ⟨g, f, none⟩ (.int .i64 s)) := ((Fr.refl S w).drewN _).setCell (p := ⟨g, f, none⟩) hSg _
  generalize (w.drewN (nq + 1)).setCell ⟨g, f, none⟩ (.int .i64 s) = W1 at *
  obtain ⟨c0, c1, c2, hlt⟩ := hb1.cells
  have fz := hb1.thaw 2
  have HB1 : Hid _ := hb1
  clear hb1 hc hfr n1
  obtain ⟨r, hr⟩ : ∃ r, (f + 1) % ys.length = r := ⟨_, rfl⟩
  have e2 : ((f : Int) + 1).tmod (ys.length : Int) = (r : Int) := by rw [← hr, Int.tmod_eq_emod_of_nonneg (by omega), Int.natCast_emod, Int.natCast_add]; rfl
  have e3 : ((f : Int) + 1) % (ys.length : Int) = (r : Int) := by rw [← hr, Int.natCast_emod, Int.natCast_add]; rfl
  have e4 : (0 : Int) < (ys.length : Int) := by omega
  have e5 : ((ys.length : Int) == 0) = false := beq_eq_false_iff_ne.2 (by omega)
  have HR : Hid _ := hr
  clear hr
  go_wp2_with fail
  go_region
  go_wp2
  go_ret2
  have hb2 := (HB1.out.drewN 1).setThird (r : Int)
  refine ⟨rfl, ring_of_full (f := f) (x := .int .i64 s) (v := .slice (some ⟨g, 0, none⟩) ys.length cap) ?_ hm1 hm2 rfl hf, ?_⟩
  · rw [HR.out]; exact hb2
  · exact hF1.drew.setCell (p := ⟨b, 2, none⟩) HB1.out.inb _
end Go.Proofs.Ytechkkidebkadaa
