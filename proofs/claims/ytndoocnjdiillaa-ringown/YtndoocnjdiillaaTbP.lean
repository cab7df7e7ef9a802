/- Layer 2 (ring): Table[[2]int] that is only added to: New, Add, Len. -/
import Derived.Test.YtndoocnjdiillaaRfD
import Derived.Test.YtndoocnjdiillaaRnd
namespace Go.Proofs.Ytndoocnjdiillaa
open Go.RowKit Go.Shelf
set_option linter.unusedVariables false
attribute [local go_sem ↓] Go.wp_at_zero Go.wp_at_succ

/-- The rows of the first things, ids from 1 on. -/
def fl (f : Nat → Int × Int) : Nat → List Value
  | 0 => []
  | k + 1 => fl f k ++ [.int .i64 ((k : Int) + 1), .int .i64 (f k).1, .int .i64 (f k).2]
theorem fl_length (f : Nat → Int × Int) (k : Nat) : (fl f k).length = k * 3 := by
  induction k with
  | zero => rfl
  | succ k ih => rw [fl, List.length_append, ih]; simp; omega
theorem fl_get (f : Nat → Int × Int) {k i : Nat} (h : i < k) : (fl f k)[i * 3]? = some (.int .i64 ((i : Int) + 1)) ∧ (fl f k)[i * 3 + 1]? = some (.int .i64 (f i).1) ∧ (fl f k)[i * 3 + 2]? = some (.int .i64 (f i).2) := by
  induction k with
  | zero => omega
  | succ k ih =>
    have hl := fl_length f k
    rw [fl]
    by_cases e : i = k
    · subst e
      refine ⟨?_, ?_, ?_⟩ <;> rw [List.getElem?_append_right (by omega), hl]
      · rw [Nat.sub_self]; rfl
      · rw [show i * 3 + 1 - i * 3 = 1 by omega]; rfl
      · rw [show i * 3 + 2 - i * 3 = 2 by omega]; rfl
    · obtain ⟨h1, h2, h3⟩ := ih (by omega)
      refine ⟨?_, ?_, ?_⟩ <;> rw [List.getElem?_append_left (by omega)] <;> assumption
theorem fl_one (f : Nat → Int × Int) (k : Nat) : ∀ u ∈ fl f k, u.oneCell' = true := by
  induction k with
  | zero => intro u hu; simp [fl] at hu
  | succ k ih =>
    intro u hu
    rw [fl] at hu
    rcases List.mem_append.1 hu with hu | hu
    · exact ih u hu
    · simp at hu; rcases hu with rfl | rfl | rfl <;> rfl
/-- A table of pairs that these were added to. -/
def PT (w : World) (S : Nat → Prop) (b : Nat) (f : Nat → Int × Int) (k : Nat) : Prop := ∃ v, Box 94 96 3 w S b 50 k (fl f k) k v ∧ k ≤ 50
theorem PT.keep {w w' : World} {S S' : Nat → Prop} {b k : Nat} {f : Nat → Int × Int} (h : PT w S b f k) (hf : Fr S' w w') (hd : ∀ k, S k → ¬ S' k) : PT w' S b f k := by
  obtain ⟨v, hb, r⟩ := h; exact ⟨v, hb.keep hf hd, r⟩
theorem PT.keepC {w w' : World} {S X : Nat → Prop} {b k : Nat} {f : Nat → Int × Int} (h : PT w S b f k) (hf : Kc X w w') (hd : ∀ k, S k → ¬ X k) : PT w' S b f k := by
  obtain ⟨v, hb, r⟩ := h; exact ⟨v, hb.keepC hf hd, r⟩
theorem PT.below {w w' : World} {S : Nat → Prop} {b k : Nat} {f : Nat → Int × Int} (h : PT w S b f k) (hf : Below w.heap.size w w') : PT w' S b f k :=
  h.keep (S' := fun _ => False) (Fr.of_below _ hf) (fun _ _ e => e)
theorem PT.lt {w : World} {S : Nat → Prop} {b k : Nat} {f : Nat → Int × Int} (h : PT w S b f k) : ∀ k, S k → k < w.heap.size := by
  obtain ⟨v, hb, _⟩ := h; exact hb.lt
theorem tnewP (w : World) (f : Nat → Int × Int) :
    Calls Try.prog 32 #[.int .i64 50] w fun e w' => e = .returned (.pointer (some ⟨w.heap.size, 0, none⟩)) ∧ PT w' (fun k => k = w.heap.size) w.heap.size f 0 ∧ Below w.heap.size w w' := by
  go_enter Try.func32, Try.ntmps32
  go_wp2_with (go_at_call 42; refine (atLeastOne _ _).mono ?_; rintro e w' ⟨rfl, rfl⟩)
  go_ret
  refine ⟨rfl, ⟨.slice none 0 0, ⟨heap_alloc_new _ _, World.ownsRow_nil _ _ _ _, rfl, by simp [Value.ownBlock], by simp, by simp [fl]⟩, by omega⟩, (Below.refl _ _).alloc (Nat.le_refl _) _⟩
theorem tlenP (S : Nat → Prop) (b k : Nat) (f : Nat → Int × Int) (w : World) (h : PT w S b f k) :
    Calls Try.prog 34 #[.pointer (some ⟨b, 0, none⟩)] w fun e w' => e = .returned (.int .i64 (k : Nat)) ∧ w' = w := by
  obtain ⟨v, hb, hk⟩ := h
  obtain ⟨c0, c1, c2, hlt⟩ := hb.cells
  obtain ⟨a, cap, rfl, _, _⟩ := hb.form
  clear hb
  go_enter Try.func34, Try.ntmps34
  go_wp2
  go_ret
  exact ⟨rfl, rfl⟩
theorem info_rP : (Try.prog.info? 96).map (fun i => (i.zero, i.size, i.bytes)) = some (some (.agg #[.int .i64 0, .int .i64 0, .int .i64 0]), 3, 24) := by kernel_rfl
theorem ones_three {ys : List Value} {x y z : Value} (h : ∀ u ∈ ys, u.oneCell' = true) (h1 : x.oneCell' = true) (h2 : y.oneCell' = true) (h3 : z.oneCell' = true) : ∀ u ∈ ys ++ [x, y, z], u.oneCell' = true := by
  intro u hu
  rcases List.mem_append.1 hu with hu | hu
  · exact h u hu
  · simp at hu; rcases hu with rfl | rfl | rfl <;> assumption
set_option maxRecDepth 100000 in
set_option maxHeartbeats 1000000 in
theorem addP_room (S : Nat → Prop) (b k : Nat) (f : Nat → Int × Int) (x y : Int) (w : World) (h : PT w S b f k) (hk : k < 50) (hx : f k = (x, y)) :
    Calls Try.prog 33 #[.pointer (some ⟨b, 0, none⟩), .agg #[.int .i64 x, .int .i64 y]] w fun e w' => e = .returned (.tuple #[.int .i64 (k + 1 : Nat), .int .i64 0]) ∧ ∃ S', PT w' S' b f (k + 1) ∧ Fr S w w' ∧ Sub w S S' := by
  obtain ⟨v, hb, h1⟩ := h
  obtain ⟨a, cap, rfl, _, hcm⟩ := hb.form
  have hr' : ¬ (50 : Int) ≤ (k : Int) := by omega
  obtain ⟨i0, hi0, hz0, hz1, hz2⟩ := info_parts info_rP
  have hF0 : Fr S w (w.alloc (.cells #[.int .i64 x, .int .i64 y] 67)) := (Fr.refl S w).alloc _
  have hbA := hb.keep (S' := fun _ => False) ((Fr.refl _ w).alloc (.cells #[.int .i64 x, .int .i64 y] 67)) (fun _ _ e => e)
  obtain ⟨c0, c1, c2, hlt⟩ := hbA.cells
  have fz := hbA.thaw 2
  have hblt : b < w.heap.size := hb.lt b hb.inb
  have hSl := hb.lt
  have HB := hid hbA
  have HX := hid hx
  have hinb := hb.inb
  unfold maxLen at hcm
  clear hb hbA hx
  go_enter Try.func33, Try.ntmps33
  go_wp2_with fail
  go_quiet (fail)
  go_wp2_with fail
  have HSl := hid (show ∀ j, S j → j < w.heap.size from hSl)
  have hbW := (HB.out.drewN nq).setThird ((k : Int) + 1)
  have hFW : Fr S w (((w.alloc (.cells #[.int .i64 x, .int .i64 y] 67)).drewN nq).setCell ⟨b, 2, none⟩ (.int .i64 ((k : Int) + 1))) := (hF0.drewN nq).setCell (p := ⟨b, 2, none⟩) hinb _
  have x0 : (((w.alloc (.cells #[.int .i64 x, .int .i64 y] 67)).drewN nq).setCell ⟨b, 2, none⟩ (.int .i64 ((k : Int) + 1))).cell? ⟨w.heap.size, 0, none⟩ = some (.int .i64 x) := by
    rw [cell_set_other _ (by omega)]
    show (w.alloc (.cells #[.int .i64 x, .int .i64 y] 67)).cell? ⟨w.heap.size, 0, none⟩ = _
    rw [cell_of_row _ _ _ _ _ _ (heap_alloc_new w _)]; rfl
  have x1 : (((w.alloc (.cells #[.int .i64 x, .int .i64 y] 67)).drewN nq).setCell ⟨b, 2, none⟩ (.int .i64 ((k : Int) + 1))).cell? ⟨w.heap.size, 1, none⟩ = some (.int .i64 y) := by
    rw [cell_set_other _ (by omega)]
    show (w.alloc (.cells #[.int .i64 x, .int .i64 y] 67)).cell? ⟨w.heap.size, 1, none⟩ = _
    rw [cell_of_row _ _ _ _ _ _ (heap_alloc_new w _)]; rfl
  have hsz : w.heap.size < (((w.alloc (.cells #[.int .i64 x, .int .i64 y] 67)).drewN nq).setCell ⟨b, 2, none⟩ (.int .i64 ((k : Int) + 1))).heap.size := by simp [World.setCell]
  generalize ((w.alloc (.cells #[.int .i64 x, .int .i64 y] 67)).drewN nq).setCell ⟨b, 2, none⟩ (.int .i64 ((k : Int) + 1)) = W at *
  obtain ⟨c0, c1, c2, hlt⟩ := hbW.cells
  have HW := hid hbW
  clear hbW fz HB
  have keepS : ∀ {w'}, Below W.heap.size W w' → w'.cell? ⟨b, 2, none⟩ = some (.int .i64 ((k : Int) + 1)) ∧ w'.cell? ⟨w.heap.size, 0, none⟩ = some (.int .i64 x) ∧ w'.cell? ⟨w.heap.size, 1, none⟩ = some (.int .i64 y) := fun hb => ⟨(hb.cell (p := ⟨b, 2, none⟩) hlt).trans c2, (hb.cell (p := ⟨w.heap.size, 0, none⟩) hsz).trans x0, (hb.cell (p := ⟨w.heap.size, 1, none⟩) hsz).trans x1⟩
  refine region_held (fun w' => w'.cell? ⟨b, 2, none⟩ = some (.int .i64 ((k : Int) + 1)) ∧ w'.cell? ⟨w.heap.size, 0, none⟩ = some (.int .i64 x) ∧ w'.cell? ⟨w.heap.size, 1, none⟩ = some (.int .i64 y)) 16 rfl (by kernel_rfl) ⟨c2, x0, x1⟩ ?_
  intro hHeld
  refine takeO 0 (some 23) (v := ?v1) rfl rfl (by kernel_rfl) (by kernel_rfl) (by kernel_rfl) (Or.inl ⟨by rfl, ?y1⟩) hHeld ?r1
  case y1 => (intro w' hSw; (try dsimp only at hSw); go_simp; try with_reducible rfl)
  try simp only [Act.put, List.setIfInBounds_toArray, List.set_cons_zero, List.set_cons_succ]
  refine takeO 1 (some 24) (v := ?v2) rfl rfl (by kernel_rfl) (by kernel_rfl) (by kernel_rfl) (Or.inl ⟨by rfl, ?y2⟩) hHeld ?r2
  case y2 => (intro w' hSw; (try dsimp only at hSw); go_simp; try with_reducible rfl)
  try simp only [Act.put, List.setIfInBounds_toArray, List.set_cons_zero, List.set_cons_succ]
  refine takeO 2 (some 25) (v := ?v3) rfl rfl (by kernel_rfl) (by kernel_rfl) (by kernel_rfl) (Or.inl ⟨by rfl, ?y3⟩) hHeld ?r3
  case y3 => (intro w' hSw; (try dsimp only at hSw); go_simp; try with_reducible rfl)
  try simp only [Act.put, List.setIfInBounds_toArray, List.set_cons_zero, List.set_cons_succ]
  refine takeO 3 (some 26) (v := ?v4) rfl rfl (by kernel_rfl) (by kernel_rfl) (by kernel_rfl) (Or.inl ⟨by rfl, ?y4⟩) hHeld ?r4
  case y4 => (intro w' hSw; (try dsimp only at hSw); go_simp; try with_reducible rfl)
  try simp only [Act.put, List.setIfInBounds_toArray, List.set_cons_zero, List.set_cons_succ]
  refine takeO 5 (some 28) (v := ?v5) rfl rfl (by kernel_rfl) (by kernel_rfl) (by kernel_rfl) (Or.inl ⟨by rfl, ?y5⟩) hHeld ?r5
  case y5 => (intro w' hSw; (try dsimp only at hSw); go_simp; try with_reducible rfl)
  try simp only [Act.put, List.setIfInBounds_toArray, List.set_cons_zero, List.set_cons_succ]
  refine takeO 6 (some 29) (v := ?v6) rfl rfl (by kernel_rfl) (by kernel_rfl) (by kernel_rfl) (Or.inl ⟨by rfl, ?y6⟩) hHeld ?r6
  case y6 => (intro w' hSw; (try dsimp only at hSw); go_simp; try with_reducible rfl)
  try simp only [Act.put, List.setIfInBounds_toArray, List.set_cons_zero, List.set_cons_succ]
  refine takeO 7 (some 30) (v := ?v7) rfl rfl (by kernel_rfl) (by kernel_rfl) (by kernel_rfl) (Or.inl ⟨by rfl, ?y7⟩) hHeld ?r7
  case y7 => (intro w' hSw; (try dsimp only at hSw); go_simp; try with_reducible rfl)
  try simp only [Act.put, List.setIfInBounds_toArray, List.set_cons_zero, List.set_cons_succ]
  refine takeO 8 (some 31) (v := ?v8) rfl rfl (by kernel_rfl) (by kernel_rfl) (by kernel_rfl) (Or.inl ⟨by rfl, ?y8⟩) hHeld ?r8
  case y8 => (intro w' hSw; (try dsimp only at hSw); go_simp; try with_reducible rfl)
  try simp only [Act.put, List.setIfInBounds_toArray, List.set_cons_zero, List.set_cons_succ]
  refine takeO 9 (some 32) (v := ?v9) rfl rfl (by kernel_rfl) (by kernel_rfl) (by kernel_rfl) (Or.inl ⟨by rfl, ?y9⟩) hHeld ?r9
  case y9 => (intro w' hSw; (try dsimp only at hSw); go_simp; try with_reducible rfl)
  try simp only [Act.put, List.setIfInBounds_toArray, List.set_cons_zero, List.set_cons_succ]
  refine takeO 10 (some 33) (v := ?v10) rfl rfl (by kernel_rfl) (by kernel_rfl) (by kernel_rfl) (Or.inl ⟨by rfl, ?y10⟩) hHeld ?r10
  case y10 => (intro w' hSw; (try dsimp only at hSw); go_simp; try with_reducible rfl)
  try simp only [Act.put, List.setIfInBounds_toArray, List.set_cons_zero, List.set_cons_succ]
  refine wpAnyH_ready (rs := [4, 11]) (by kernel_rfl) (by simp) ?_
  refine AllReadyH.cons rfl (fun K hK => ?_) (AllReadyH.cons rfl (fun K hK => ?_) AllReadyH.nil)
  · go_simp
    refine hK.out _ _ hHeld (fun hHeld => ?_)
    clear hK K
    refine wpAnyH_ready (rs := [11]) (by kernel_rfl) (by simp) ?_
    refine AllReadyH.cons rfl (fun K hK => ?_) AllReadyH.nil
    go_simp
    refine hK.out _ _ (keepS (Below.refl _ _ |>.drew |>.alloc (by simp) _)) (fun hHeld => ?_)
    clear hK K
    refine wpAnyH_ready (rs := [12]) (by kernel_rfl) (by simp) ?_
    refine AllReadyH.cons rfl (fun K hK => ?_) AllReadyH.nil
    refine step_append_lies _ (by rfl) _ _ 92 (by rfl) 0 96 i0 (.agg #[.int .i64 0, .int .i64 0, .int .i64 0]) 3 24 Try.underlying92 hi0 hz0 hz1 hz2 rfl (by decide) _ k (fl f k) (by rfl) ((HW.out.drewN 1).own.alloc _) ⟨W.heap.size, 0, none⟩ 1 1 [.int .i64 ((k : Int) + 1), .int .i64 x, .int .i64 y] (by rfl) rfl (World.news_of_block (heap_alloc_new _ _)) (by intro u hu; simp at hu; rcases hu with rfl | rfl | rfl <;> rfl) (by decide) (by unfold maxLen; omega) (by omega) (Nat.zero_le _) (W.heap.size + 1) (by simp) ?_
    intro g cap' w1 hown' hgrow hat hglt
    change K (Act.put _ (some 35) _) _
    simp only [Act.put, List.setIfInBounds_toArray, List.set_cons_zero, List.set_cons_succ]
    obtain ⟨d0, d1, d2, d3⟩ := HW.out.grown_cells (Fr.start_alloc _ _ 1 _) hgrow
    have HG := hid (HW.out.grown (Fr.start_alloc _ _ 1 _) hgrow hown' (own_new hat (Nat.le_succ _)) (ones_three HW.out.one rfl rfl rfl))
    have hXg : w1.cell? ⟨w.heap.size, 0, none⟩ = some (.int .i64 x) ∧ w1.cell? ⟨w.heap.size, 1, none⟩ = some (.int .i64 y) := by
      have hne : some w.heap.size ≠ (Value.slice a k cap).ownBlock := fun e => by have := HSl.out _ (HW.out.inr _ e.symm).1; omega
      exact ⟨(World.grownBy.cell_far hgrow ⟨w.heap.size, 0, none⟩ (by simp; omega) hne).trans (Lib.cell?_alloc_some _ x0), (World.grownBy.cell_far hgrow ⟨w.heap.size, 1, none⟩ (by simp; omega) hne).trans (Lib.cell?_alloc_some _ x1)⟩
    clear hat hown' hgrow hglt
    refine hK.out _ _ ⟨d2, hXg.1, hXg.2⟩ (fun hHeld => ?_)
    clear hK K
    refine takeO 13 (some 36) (v := ?v11) rfl rfl (by kernel_rfl) (by kernel_rfl) (by kernel_rfl) (Or.inl ⟨by rfl, ?y11⟩) hHeld ?r11
    case y11 => (intro w' hSw; (try dsimp only at hSw); go_simp; try with_reducible rfl)
    try simp only [Act.put, List.setIfInBounds_toArray, List.set_cons_zero, List.set_cons_succ]
    refine takeO 14 (some 37) (v := ?v12) rfl rfl (by kernel_rfl) (by kernel_rfl) (by kernel_rfl) (Or.inl ⟨by rfl, ?y12⟩) hHeld ?r12
    case y12 => (intro w' hSw; (try dsimp only at hSw); go_simp; try with_reducible rfl)
    try simp only [Act.put, List.setIfInBounds_toArray, List.set_cons_zero, List.set_cons_succ]
    refine wpAnyH_ready (rs := [15]) (by kernel_rfl) (by simp) ?_
    refine AllReadyH.cons rfl (fun K hK => ?_) AllReadyH.nil
    go_simp
    refine hK.out _ _ ⟨(World.cell?_setCell_other _ _ _ _ (by simp)).trans d2, by rw [cell_set_other _ (by omega)]; exact hXg.1, by rw [cell_set_other _ (by omega)]; exact hXg.2⟩ (fun hHeld => ?_)
    clear hK K
    refine wpAnyH_done (by kernel_rfl) (Only.on ?_) _
    obtain ⟨hb2, hf2⟩ := HG.out
    have e2 : fl f k ++ [.int .i64 ((k : Int) + 1), .int .i64 x, .int .i64 y] = fl f (k + 1) := by rw [fl, HX.out]
    rw [e2] at hb2
    obtain ⟨m0, m1, m2, _⟩ := hb2.cells
    have HB2 := hid hb2
    clear hb2 e2 HG
    go_wp2_with fail
    go_ret2
    exact ⟨rfl, _, ⟨_, HB2.out, by omega⟩, hFW.trans hf2 (fun _ _ h => h), fun k' (hk' : S k' ∨ (W.heap.size ≤ k' ∧ k' < w1.heap.size)) => hk'.imp (fun e => e) (fun e => Nat.le_trans hFW.size e.1)⟩
  · go_simp
    refine hK.out _ _ (keepS (Below.refl _ _ |>.drew |>.alloc (by simp) _)) (fun hHeld => ?_)
    clear hK K
    refine wpAnyH_ready (rs := [4]) (by kernel_rfl) (by simp) ?_
    refine AllReadyH.cons rfl (fun K hK => ?_) AllReadyH.nil
    go_simp
    refine hK.out _ _ (keepS (Below.refl _ _ |>.drew |>.alloc (by simp) _)) (fun hHeld => ?_)
    clear hK K
    refine wpAnyH_ready (rs := [12]) (by kernel_rfl) (by simp) ?_
    refine AllReadyH.cons rfl (fun K hK => ?_) AllReadyH.nil
    refine step_append_lies _ (by rfl) _ _ 92 (by rfl) 0 96 i0 (.agg #[.int .i64 0, .int .i64 0, .int .i64 0]) 3 24 Try.underlying92 hi0 hz0 hz1 hz2 rfl (by decide) _ k (fl f k) (by rfl) ((HW.out.drewN 1).own.alloc _) ⟨W.heap.size, 0, none⟩ 1 1 [.int .i64 ((k : Int) + 1), .int .i64 x, .int .i64 y] (by rfl) rfl (World.news_of_block (heap_alloc_new _ _)) (by intro u hu; simp at hu; rcases hu with rfl | rfl | rfl <;> rfl) (by decide) (by unfold maxLen; omega) (by omega) (Nat.zero_le _) (W.heap.size + 1) (by simp) ?_
    intro g cap' w1 hown' hgrow hat hglt
    change K (Act.put _ (some 35) _) _
    simp only [Act.put, List.setIfInBounds_toArray, List.set_cons_zero, List.set_cons_succ]
    obtain ⟨d0, d1, d2, d3⟩ := HW.out.grown_cells (Fr.start_alloc _ _ 1 _) hgrow
    have HG := hid (HW.out.grown (Fr.start_alloc _ _ 1 _) hgrow hown' (own_new hat (Nat.le_succ _)) (ones_three HW.out.one rfl rfl rfl))
    have hXg : w1.cell? ⟨w.heap.size, 0, none⟩ = some (.int .i64 x) ∧ w1.cell? ⟨w.heap.size, 1, none⟩ = some (.int .i64 y) := by
      have hne : some w.heap.size ≠ (Value.slice a k cap).ownBlock := fun e => by have := HSl.out _ (HW.out.inr _ e.symm).1; omega
      exact ⟨(World.grownBy.cell_far hgrow ⟨w.heap.size, 0, none⟩ (by simp; omega) hne).trans (Lib.cell?_alloc_some _ x0), (World.grownBy.cell_far hgrow ⟨w.heap.size, 1, none⟩ (by simp; omega) hne).trans (Lib.cell?_alloc_some _ x1)⟩
    clear hat hown' hgrow hglt
    refine hK.out _ _ ⟨d2, hXg.1, hXg.2⟩ (fun hHeld => ?_)
    clear hK K
    refine takeO 13 (some 36) (v := ?v13) rfl rfl (by kernel_rfl) (by kernel_rfl) (by kernel_rfl) (Or.inl ⟨by rfl, ?y13⟩) hHeld ?r13
    case y13 => (intro w' hSw; (try dsimp only at hSw); go_simp; try with_reducible rfl)
    try simp only [Act.put, List.setIfInBounds_toArray, List.set_cons_zero, List.set_cons_succ]
    refine takeO 14 (some 37) (v := ?v14) rfl rfl (by kernel_rfl) (by kernel_rfl) (by kernel_rfl) (Or.inl ⟨by rfl, ?y14⟩) hHeld ?r14
    case y14 => (intro w' hSw; (try dsimp only at hSw); go_simp; try with_reducible rfl)
    try simp only [Act.put, List.setIfInBounds_toArray, List.set_cons_zero, List.set_cons_succ]
    refine wpAnyH_ready (rs := [15]) (by kernel_rfl) (by simp) ?_
    refine AllReadyH.cons rfl (fun K hK => ?_) AllReadyH.nil
    go_simp
    refine hK.out _ _ ⟨(World.cell?_setCell_other _ _ _ _ (by simp)).trans d2, by rw [cell_set_other _ (by omega)]; exact hXg.1, by rw [cell_set_other _ (by omega)]; exact hXg.2⟩ (fun hHeld => ?_)
    clear hK K
    refine wpAnyH_done (by kernel_rfl) (Only.on ?_) _
    obtain ⟨hb2, hf2⟩ := HG.out
    have e2 : fl f k ++ [.int .i64 ((k : Int) + 1), .int .i64 x, .int .i64 y] = fl f (k + 1) := by rw [fl, HX.out]
    rw [e2] at hb2
    obtain ⟨m0, m1, m2, _⟩ := hb2.cells
    have HB2 := hid hb2
    clear hb2 e2 HG
    go_wp2_with fail
    go_ret2
    exact ⟨rfl, _, ⟨_, HB2.out, by omega⟩, hFW.trans hf2 (fun _ _ h => h), fun k' (hk' : S k' ∨ (W.heap.size ≤ k' ∧ k' < w1.heap.size)) => hk'.imp (fun e => e) (fun e => Nat.le_trans hFW.size e.1)⟩
end Go.Proofs.Ytndoocnjdiillaa
