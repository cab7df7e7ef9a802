/- Layer 7 (mail): the document's box: the contracts; are two rows the same? -/
import Derived.Test.YtllojhhplfdgkaaMlE
namespace Go.Proofs.Ytllojhhplfdgkaa
open Go.Conc Go.RowKit Go.Shelf
set_option linter.unusedVariables false
set_option linter.unusedSimpArgs false
attribute [local go_sem ↓] Go.wp_at_zero Go.wp_at_succ

/-- The document's box. -/
structure RB (w : World) (S : Nat → Prop) (b m : Nat) (xs : List Int) (lost : Nat) : Prop where
  box : ∃ v, Box 38 3 1 w S b m xs.length (xs.map vI) lost v
theorem RB.keep {w w' : World} {S S' : Nat → Prop} {b m lost : Nat} {xs : List Int} (h : RB w S b m xs lost) (hf : Fr S' w w') (hd : ∀ k, S k → ¬ S' k) : RB w' S b m xs lost := by
  obtain ⟨v, hb⟩ := h.box
  exact ⟨v, hb.keep hf hd⟩
theorem RB.below {w w' : World} {S : Nat → Prop} {b m lost : Nat} {xs : List Int} (h : RB w S b m xs lost) (hf : Below w.heap.size w w') : RB w' S b m xs lost :=
  h.keep (S' := fun _ => False) (Fr.of_below _ hf) (fun _ _ e => e)
theorem RB.lt {w : World} {S : Nat → Prop} {b m lost : Nat} {xs : List Int} (h : RB w S b m xs lost) : ∀ k, S k → k < w.heap.size := by
  obtain ⟨v, hb⟩ := h.box
  exact hb.lt
set_option maxRecDepth 100000 in
theorem refNew (m : Int) (w : World) :
    Calls Try.prog 9 #[.int .i64 m] w fun e w' => e = .returned (.pointer (some ⟨w.heap.size, 0, none⟩)) ∧ w' = w.alloc (.cells #[.int .i64 (room m : Nat), .slice none 0 0, .int .i64 0] 38) := by
  rcases room_is m with ⟨h1, h2⟩ | ⟨k, rfl, h1, h2, h3⟩ | ⟨h1, h2⟩
  · rw [h2]
    go_enter Try.func9, Try.ntmps9
    go_wp2_with fail
    all_goals first | omega | skip
    all_goals (go_ret; exact ⟨rfl, rfl⟩)
  · rw [h3]
    have i1 : (1 : Int) ≤ (k : Int) := by omega
    have i2 : (k : Int) ≤ 4096 := by omega
    go_enter Try.func9, Try.ntmps9
    go_wp2_with fail
    all_goals first | omega | skip
    all_goals (go_ret; exact ⟨rfl, rfl⟩)
  · rw [h2]
    go_enter Try.func9, Try.ntmps9
    go_wp2_with fail
    all_goals first | omega | skip
    all_goals (go_ret; exact ⟨rfl, rfl⟩)
theorem refNew_at (w : World) (m : Nat) : RB (w.alloc (.cells #[.int .i64 (m : Nat), .slice none 0 0, .int .i64 0] 38)) (fun k => k = w.heap.size) w.heap.size m [] 0 :=
  ⟨.slice none 0 0, ⟨heap_alloc_new w _, World.ownsRow_nil _ _ _ _, rfl, by simp [Value.ownBlock], by simp, by simp⟩⟩
set_option maxRecDepth 100000 in
set_option maxHeartbeats 1000000 in
theorem refPut_full {S : Nat → Prop} {b m lost : Nat} {xs : List Int} {w : World} (h : RB w S b m xs lost) (x : Int) (hr : ¬ xs.length < m) (hl : lost ≤ 1000000) :
    Calls Try.prog 11 #[.pointer (some ⟨b, 0, none⟩), .int .i64 x] w fun e w' => e = .returned (.bool false) ∧ RB w' S b m xs (lost + 1) ∧ Fr S w w' := by
  obtain ⟨v, hb⟩ := h.box
  obtain ⟨c0, c1, c2, hlt⟩ := hb.cells
  have HB := hid hb
  obtain ⟨a, cap, rfl, _, hcm⟩ := hb.form
  have fz := hb.thaw 2
  have hr' : (m : Int) ≤ (xs.length : Int) := by omega
  have hw := wrap_i64' (n := (lost : Int) + 1) (by omega) (by omega)
  clear hb h
  go_enter Try.func11, Try.ntmps11
  go_wp2_with fail
  go_quiet (fail)
  go_wp2_with fail
  go_ret
  have hb2 := (HB.out.drewN nq).setThird ((lost : Int) + 1)
  exact ⟨rfl, ⟨_, hb2⟩, (Fr.drewN (Fr.refl S w) nq).setCell (p := ⟨b, 2, none⟩) HB.out.inb _⟩
theorem box_snoc {w : World} {S : Nat → Prop} {b m lost : Nat} {xs : List Int} {x : Int} {v : Value} (h : Box 38 3 1 w S b m (xs.length + 1) (xs.map vI ++ [.int .i64 x]) lost v) : RB w S b m (xs ++ [x]) lost := by
  have e : (xs ++ [x]).map vI = xs.map vI ++ [.int .i64 x] := by rw [List.map_append]; rfl
  refine ⟨v, ?_⟩
  rw [e, List.length_append]
  exact h
set_option maxRecDepth 100000 in
set_option maxHeartbeats 1000000 in
theorem refPut_room {S : Nat → Prop} {b m lost : Nat} {xs : List Int} {w : World} (h : RB w S b m xs lost) (x : Int) (hr : xs.length < m) (hm : m ≤ 4096) :
    Calls Try.prog 11 #[.pointer (some ⟨b, 0, none⟩), .int .i64 x] w fun e w' => e = .returned (.bool true) ∧ ∃ S', RB w' S' b m (xs ++ [x]) lost ∧ Fr S w w' ∧ Sub w S S' := by
  obtain ⟨v, hb⟩ := h.box
  obtain ⟨c0, c1, c2, hlt⟩ := hb.cells
  have HB := hid hb
  obtain ⟨a, cap, rfl, _, hcm⟩ := hb.form
  have hr' : (xs.length : Int) < (m : Int) := by omega
  have hrow : RowV 3 w 0 (.slice a xs.length cap) (xs.map vI) := ⟨by rw [List.length_map]; exact hb.own, hb.one⟩
  have HR := hid hrow
  clear hb h hrow
  go_enter Try.func11, Try.ntmps11
  go_wp2_with fail
  go_quiet (fail)
  obtain ⟨v', w1, hrun, h2, hg, hat, _⟩ := append_oneV elI (w := w.drewN nq) (vI x) 34 (HR.out.below (below_drewN w nq)) rfl (Nat.zero_le _) (by simp; omega)
  obtain ⟨p', cap', hv', _, _⟩ := h2.form
  rw [show (xs.map vI ++ [vI x]).length = xs.length + 1 by simp] at hv'
  subst hv'
  have hd := HB.out.grown_cells (W := (w.drewN nq).alloc (.cells #[vI x] 3)) ((Fr.drewN (Fr.refl _ _) nq).alloc _) hg
  have h2o : w1.ownsRow 0 3 1 (.slice p' (xs.length + 1) cap') (xs.length + 1) (xs.map vI ++ [.int .i64 x]) := by have := h2.own; rw [List.length_append, List.length_map] at this; exact this
  have hG := HB.out.grown (W := (w.drewN nq).alloc (.cells #[vI x] 3)) (n' := xs.length + 1) (ys' := xs.map vI ++ [.int .i64 x]) ((Fr.drewN (Fr.refl _ _) nq).alloc _) hg h2o hat h2.one
  obtain ⟨d0, d1, d2, d3⟩ := hd
  have HG := hid hG
  unfold vI at hrun
  clear h2 hg hat hG h2o HR
  go_wp2_with (at_builtin; refine Lib.wpList_append_run _ rfl _ _ _ _ rfl _ _ rfl rfl _ _ hrun ?_; clear hrun)
  go_ret
  exact ⟨rfl, _, box_snoc HG.out.1, HG.out.2, fun k (hk : S k ∨ (w.heap.size ≤ k ∧ k < w1.heap.size)) => hk.imp id (fun e => e.1)⟩
set_option maxRecDepth 100000 in
theorem refTake_none {S : Nat → Prop} {b m lost : Nat} {w : World} (h : RB w S b m [] lost) :
    Calls Try.prog 13 #[.pointer (some ⟨b, 0, none⟩)] w fun e w' => e = .returned (.tuple #[.int .i64 0, .bool false]) ∧ w' = w := by
  obtain ⟨v, hb⟩ := h.box
  obtain ⟨c0, c1, c2, hlt⟩ := hb.cells
  obtain ⟨a, cap, rfl, _, hcm⟩ := hb.form
  rw [List.length_nil] at c1
  clear hb h
  go_enter Try.func13, Try.ntmps13
  go_wp2_with fail
  go_ret2
  exact ⟨rfl, rfl⟩
theorem box_tail {w : World} {S : Nat → Prop} {b m lost : Nat} {xs : List Int} {v : Value} {n : Nat} {ys : List Value} (h : Box 38 3 1 w S b m n ys lost v) (hn : n = xs.length) (hy : ys = xs.map vI) : RB w S b m xs lost := by
  subst hn; subst hy; exact ⟨v, h⟩
set_option maxRecDepth 100000 in
set_option maxHeartbeats 1000000 in
theorem refTake_some {S : Nat → Prop} {b m lost : Nat} {x : Int} {xs : List Int} {w : World} (h : RB w S b m (x :: xs) lost) (hl : xs.length ≤ 4096) :
    Calls Try.prog 13 #[.pointer (some ⟨b, 0, none⟩)] w fun e w' => e = .returned (.tuple #[.int .i64 x, .bool true]) ∧ ∃ S', RB w' S' b m xs lost ∧ Fr S w w' ∧ Sub w S S' := by
  obtain ⟨v, hb⟩ := h.box
  obtain ⟨c0, c1, c2, hlt⟩ := hb.cells
  have HB := hid hb
  obtain ⟨g, cap, rfl, hle, hcm, hgb, hSg, hgl, hcs, _⟩ := hb.at (j := 0) (by simp)
  have c3 := hcs 0 (by simp)
  rw [List.length_cons] at hle
  obtain ⟨o1, ho1⟩ : ∃ o1, (cap = 1 ∧ o1 = 0 ∧ xs = []) ∨ (cap ≠ 1 ∧ o1 = 1) := by
    by_cases hc : cap = 1
    · exact ⟨0, .inl ⟨hc, rfl, List.length_eq_zero_iff.1 (by omega)⟩⟩
    · exact ⟨1, .inr ⟨hc, rfl⟩⟩
  have ha : Arg w (some ⟨g, o1, none⟩) (xs.map vI).length (cap - 1) (fun i => vI (xs.getD i 0)) := by
    refine ⟨by rw [List.length_map]; omega, by omega, ?_⟩
    rcases ho1 with ⟨_, _, rfl⟩ | ⟨_, rfl⟩
    · exact .inl rfl
    · refine .inr ⟨g, 1, rfl, hgl, fun i hi => ?_⟩
      rw [List.length_map] at hi
      have := hcs (i + 1) (by simp; omega)
      rw [Nat.add_comm 1 i, this]
      simp [hi]
  obtain ⟨v', w1, hrun, h2, hB1⟩ := append_copyV elI 34 ha (fun i hi => by rw [List.length_map] at hi; simp [hi]) (vI_one xs) (by simp; omega)
  have hb1 : Fr (fun _ => False) w w1 := Fr.of_below _ hB1
  obtain ⟨p', cap', hv', _, _⟩ := h2.form
  rw [List.length_map] at hv' hrun
  subst hv'
  have hg : w.grownBy w1 (Value.slice (some ⟨g, 0, none⟩) (x :: xs).length cap).ownBlock := ⟨hB1.os, hB1.tape, hB1.output, hB1.size, fun k hk _ => hB1.block k hk⟩
  have h2o : w1.ownsRow 0 3 1 (.slice p' xs.length cap') xs.length (xs.map vI) := by have := (h2.base (Nat.zero_le _)).own; rw [List.length_map] at this; exact this
  obtain ⟨d0, d1, d2, d3⟩ := HB.out.grown_cells (Fr.refl _ _) hg
  have HG := hid (HB.out.grown (Fr.refl _ _) hg h2o (fun k hk => .inr (h2.lt k hk).1) h2.one)
  have k1 : (1 : Int) ≤ (cap : Int) := by omega
  rw [List.length_cons] at c1 d1
  have k3 : 1 ≤ xs.length + 1 := by omega
  have k4 : ((xs.length : Int) + 1 == 0) = false := beq_eq_false_iff_ne.2 (by omega)
  simp only [List.map_cons, List.getElem_cons_zero] at c3
  unfold vI at c3
  clear hb h hcs ha h2 hb1 hg hB1 h2o
  rcases ho1 with ⟨hc, rfl, rfl⟩ | ⟨hc, rfl⟩
  · subst hc
    rw [List.length_nil] at c1 d1 hrun HG
    go_enter Try.func13, Try.ntmps13
    go_wp2_with (at_builtin; refine Lib.wpList_append_run _ rfl _ _ _ _ rfl _ _ rfl rfl _ _ hrun ?_; clear hrun)
    go_ret2
    exact ⟨rfl, _, box_tail HG.out.1 rfl rfl, HG.out.2, fun k (hk : S k ∨ (w.heap.size ≤ k ∧ k < w1.heap.size)) => hk.imp id (fun e => e.1)⟩
  · go_enter Try.func13, Try.ntmps13
    go_wp2_with (at_builtin; refine Lib.wpList_append_run _ rfl _ _ _ _ rfl _ _ rfl rfl _ _ hrun ?_; clear hrun)
    go_ret2
    exact ⟨rfl, _, box_tail HG.out.1 rfl rfl, HG.out.2, fun k (hk : S k ∨ (w.heap.size ≤ k ∧ k < w1.heap.size)) => hk.imp id (fun e => e.1)⟩
set_option maxRecDepth 100000 in
set_option maxHeartbeats 1000000 in
theorem refDrain {S : Nat → Prop} {b m lost : Nat} {xs : List Int} {w : World} (h : RB w S b m xs lost) :
    Calls Try.prog 16 #[.pointer (some ⟨b, 0, none⟩)] w fun e w' => (∃ p cap, e = .returned (.slice p xs.length cap) ∧ Arg w' p xs.length cap (fun i => vI (xs.getD i 0))) ∧ RB w' S b m [] lost ∧ Fr S w w' := by
  obtain ⟨v, hb⟩ := h.box
  obtain ⟨c0, c1, c2, hlt⟩ := hb.cells
  have hrow : RowV 3 w 0 v (xs.map vI) := ⟨by rw [List.length_map]; exact hb.own, hb.one⟩
  have hne := hb.inr
  have hg : w.grownBy w v.ownBlock := ⟨rfl, rfl, rfl, Nat.le_refl _, fun _ _ _ => rfl⟩
  have hG := hb.grown (v' := .slice none 0 0) (n' := 0) (ys' := []) (Fr.refl _ _) hg (World.ownsRow_nil _ _ _ _) (by simp [Value.ownBlock]) (by simp)
  have hS : (fun k => S k ∨ (w.heap.size ≤ k ∧ k < w.heap.size)) = S := funext fun k => propext ⟨fun h => h.elim id (fun e => by omega), .inl⟩
  rw [hS] at hG
  obtain ⟨d0, d1, d2, d3⟩ := hb.grown_cells (Fr.refl _ _) hg
  have hf1 : Fr (fun k => k = b) w (w.setCell ⟨b, 1, none⟩ (.slice none 0 0)) := Fr.setCell (S := fun k => k = b) (Fr.refl _ _) (p := ⟨b, 1, none⟩) rfl _
  have hr2 := hrow.frN hf1 (fun k hk => (hne k hk).2)
  obtain ⟨p, cap, rfl, ha⟩ := hr2.arg (f := fun i => vI (xs.getD i 0)) (fun i hi => by rw [List.length_map] at hi; simp [hi])
  rw [List.length_map] at c1 d1 ha
  have HG := hid hG
  have HA := hid ha
  clear hb h hrow hne hg hG hf1 hr2 ha
  go_enter Try.func16, Try.ntmps16
  go_wp2_with fail
  go_ret
  exact ⟨⟨_, _, rfl, HA.out⟩, ⟨_, HG.out.1⟩, HG.out.2⟩
set_option maxRecDepth 100000 in
set_option maxHeartbeats 1000000 in
theorem sameI {w : World} {p q : Option Addr} {n c d : Nat} {f : Nat → Int} (hx : Arg w p n c fun i => vI (f i)) (hy : Arg w q n d fun i => vI (f i)) :
    Calls Try.prog 14 #[.slice p n c, .slice q n d] w fun e w' => e = .returned (.bool true) ∧ Below w.heap.size w w' := by
  have hle := hx.le; have hmost := hx.most; have hle2 := hy.le; have hmost2 := hy.most
  unfold maxLen at hmost hmost2
  have HX := hid hx; have HY := hid hy
  clear hx hy
  go_enter Try.func14, Try.ntmps14
  go_wp2_with fail
  go_loopw [5] (fun i wr => ∃ (j : Nat), i = .int .i64 (j : Int) ∧ j ≤ n ∧ Below w.heap.size w wr) (fun i _ => n - (intOf i).toNat)
  case atStart => exact ⟨0, rfl, Nat.zero_le _, Below.refl _ _⟩
  case round =>
    obtain ⟨j, rfl, hj, hb⟩ := hrel
    by_cases hlt : j < n
    · obtain ⟨b1, o1, rfl, hbl1, hc1⟩ := (HX.out.keep hb).at hlt
      obtain ⟨b2, o2, rfl, hbl2, hc2⟩ := (HY.out.keep hb).at hlt
      have c1 := hc1 j hlt
      have c2 := hc2 j hlt
      unfold vI at c1 c2
      have HB := hid hb
      have i1 : (j : Int) < (n : Int) := by omega
      clear hc1 hc2 hb
      go_wp2_with fail
      go_region
      go_wp2_with fail
      go_roundw
      case rel => exact ⟨j + 1, by go_num, by omega, HB.out.trans (below_drewN _ _)⟩
      case measure => simp [intOf]; omega
    · obtain rfl : j = n := by omega
      have HB := hid hb
      clear hb
      go_wp2_with fail
      go_ret
      exact ⟨rfl, HB.out⟩
end Go.Proofs.Ytllojhhplfdgkaa
