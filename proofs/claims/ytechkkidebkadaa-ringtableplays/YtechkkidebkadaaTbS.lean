/- Layer 2 (ring): the contracts of Table[string]: NewTable, Len, find, Get, Put, Drop, Add. -/
import Derived.Test.YtechkkidebkadaaTbB
namespace Go.Proofs.Ytechkkidebkadaa
open Go.RowKit
set_option linter.unusedVariables false
attribute [local go_sem ↓] Go.wp_at_zero Go.wp_at_succ

theorem tnewS (m : Int) (w : World) :
    Calls Try.prog 36 #[.int .i64 m] w fun e w' => e = .returned (.pointer (some ⟨w.heap.size, 0, none⟩)) ∧ w' = w.alloc (.cells #[.int .i64 (max m 1), .slice none 0 0, .int .i64 0] 100) := by
  go_enter Try.func36, Try.ntmps36
  go_wp2_with (go_at_call 42; refine (atLeastOne _ _).mono ?_; rintro e w' ⟨rfl, rfl⟩)
  go_ret
  exact ⟨rfl, rfl⟩
theorem tlenS (S : Nat → Prop) (b m L : Nat) (es : List (Nat × Value)) (w : World) (h : TableAt 100 102 2 w S b m es L) :
    Calls Try.prog 40 #[.pointer (some ⟨b, 0, none⟩)] w fun e w' => e = .returned (.int .i64 (es.length : Nat)) ∧ w' = w := by
  obtain ⟨v, hb, h1, h2, h3, h4, h5, h6, h7⟩ := h
  obtain ⟨c0, c1, c2, hlt⟩ := hb.cells
  obtain ⟨a, cap, rfl, _, _⟩ := hb.form
  clear h4 h5 h6 hb
  go_enter Try.func40, Try.ntmps40
  go_wp2
  go_ret
  exact ⟨rfl, rfl⟩
theorem AllS.cells {es : List (Nat × Value)} (h : AllS es) : ∀ k (hk : k < es.length), es[k].2.cells = #[es[k].2] := fun k hk => by
  obtain ⟨s, e⟩ := h k hk
  rw [e]; rfl
theorem findS (S : Nat → Prop) (b m L : Nat) (es : List (Nat × Value)) (id : Int) (w : World) (h : TableAt 100 102 2 w S b m es L) (hs : AllS es) :
    Calls Try.prog 49 #[.pointer (some ⟨b, 0, none⟩), .int .i64 id] w fun e w' => (∃ i, Low es id i ∧ e = .returned (.tuple #[.int .i64 i, .bool (isAt es id i)])) ∧ Below w.heap.size w w' := by
  obtain ⟨v, hb, h1, h2, h3, h4, h5, h6, h7⟩ := h
  obtain ⟨c0, c1, c2, hlt⟩ := hb.cells
  obtain ⟨g, cap, a, rfl, hc1, hc2, hrows⟩ := rows2_of_box hb h5 hs.cells
  have hc := searchS g cap a es id w hrows h4 hs (by omega) hc1 hc2
  clear h4 h5 h6 hb hrows hs
  go_enter Try.func49, Try.ntmps49
  go_wp2_with fail
  refine hc.mono ?_; rintro e w1 ⟨⟨i, hi, rfl⟩, b1⟩
  have HI : Hid _ := hi
  clear hc hi
  go_wp2_with fail
  go_ret2
  exact ⟨⟨i, HI.out, rfl⟩, b1⟩
/-- The id is there. -/
theorem getS_yes (S : Nat → Prop) (b m L : Nat) (es : List (Nat × Value)) (id : Int) (k : Nat) (hk : k < es.length) (w : World) (h : TableAt 100 102 2 w S b m es L) (hs : AllS es) (hid : (es[k].1 : Int) = id) :
    Calls Try.prog 41 #[.pointer (some ⟨b, 0, none⟩), .int .i64 id] w fun e w' => e = .returned (.tuple #[es[k].2, .bool true]) ∧ Below w.heap.size w w' := by
  have hF := findS S b m L es id w h hs
  have H : Hid _ := h
  have hr : Rise es := by obtain ⟨v, _, _, _, _, h4, _⟩ := h; exact h4
  have hat := isAt_yes hk hid
  have HR : Hid _ := hr
  have HS : Hid _ := hs
  have HD : Hid _ := hid
  have HAT : Hid _ := hat
  clear hr hs hid hat h
  go_enter Try.func41, Try.ntmps41
  go_wp2_with fail
  refine hF.mono ?_; rintro e w1 ⟨⟨i, hi, rfl⟩, b1⟩
  obtain rfl := low_eq hi hk HR.out HD.out
  rw [HAT.out]
  clear hF hi
  obtain ⟨v, hb, h1, h2, h3, h4, h5, h6, h7⟩ := TableAt.below H.out b1
  obtain ⟨c0, c1, c2, hlt⟩ := hb.cells
  obtain ⟨g, cap, a, rfl, hc1, hc2, hrows⟩ := rows2_of_box hb h5 (AllS.cells HS.out)
  obtain ⟨rfl, hR⟩ := hrows.resolve_left (fun e => by rw [e] at hk; simp at hk)
  have r1 := hR.thing i hk
  obtain ⟨x, hx⟩ : ∃ x, es[i].2 = x := ⟨_, rfl⟩
  rw [hx] at r1
  have HX : Hid _ := hx
  have hi' : (i : Int) < (es.length : Int) := by omega
  unfold maxLen at hc2
  clear h4 h5 h6 hb hrows hR hx
  go_wp2_with fail
  go_ret2
  exact ⟨by rw [HX.out]; rfl, b1⟩
/-- The id is not there. -/
theorem getS_no (S : Nat → Prop) (b m L : Nat) (es : List (Nat × Value)) (id : Int) (w : World) (h : TableAt 100 102 2 w S b m es L) (hs : AllS es) (hid : ∀ k (hk : k < es.length), (es[k].1 : Int) ≠ id) :
    Calls Try.prog 41 #[.pointer (some ⟨b, 0, none⟩), .int .i64 id] w fun e w' => e = .returned (.tuple #[.string ⟨#[]⟩, .bool false]) ∧ Below w.heap.size w w' := by
  have hF := findS S b m L es id w h hs
  have HD : Hid _ := hid
  clear hs hid h
  go_enter Try.func41, Try.ntmps41
  go_wp2_with fail
  refine hF.mono ?_; rintro e w1 ⟨⟨i, hi, rfl⟩, b1⟩
  rw [isAt_no i HD.out]
  clear hF hi
  go_wp2_with fail
  go_ret2
  exact ⟨rfl, b1⟩
theorem putS_no (S : Nat → Prop) (b m L : Nat) (es : List (Nat × Value)) (id : Int) (s : ByteArray) (w : World) (h : TableAt 100 102 2 w S b m es L) (hs : AllS es) (hid : ∀ k (hk : k < es.length), (es[k].1 : Int) ≠ id) :
    Calls Try.prog 39 #[.pointer (some ⟨b, 0, none⟩), .int .i64 id, .string s] w fun e w' => e = .returned (.bool false) ∧ Below w.heap.size w w' := by
  have hF := findS S b m L es id w h hs
  have HD : Hid _ := hid
  clear hs hid h
  go_enter Try.func39, Try.ntmps39
  go_wp2_with fail
  refine hF.mono ?_; rintro e w1 ⟨⟨i, hi, rfl⟩, b1⟩
  rw [isAt_no i HD.out]
  clear hF hi
  go_wp2_with fail
  go_ret
  exact ⟨rfl, b1⟩
theorem dropS_no (S : Nat → Prop) (b m L : Nat) (es : List (Nat × Value)) (id : Int) (w : World) (h : TableAt 100 102 2 w S b m es L) (hs : AllS es) (hid : ∀ k (hk : k < es.length), (es[k].1 : Int) ≠ id) :
    Calls Try.prog 38 #[.pointer (some ⟨b, 0, none⟩), .int .i64 id] w fun e w' => e = .returned (.bool false) ∧ Below w.heap.size w w' := by
  have hF := findS S b m L es id w h hs
  have HD : Hid _ := hid
  clear hs hid h
  go_enter Try.func38, Try.ntmps38
  go_wp2_with fail
  refine hF.mono ?_; rintro e w1 ⟨⟨i, hi, rfl⟩, b1⟩
  rw [isAt_no i HD.out]
  clear hF hi
  go_wp2_with fail
  go_ret
  exact ⟨rfl, b1⟩
theorem putS_yes (S : Nat → Prop) (b m L : Nat) (es : List (Nat × Value)) (id : Int) (k : Nat) (hk : k < es.length) (s : ByteArray) (w : World) (h : TableAt 100 102 2 w S b m es L) (hs : AllS es) (hid : (es[k].1 : Int) = id) :
    Calls Try.prog 39 #[.pointer (some ⟨b, 0, none⟩), .int .i64 id, .string s] w fun e w' => e = .returned (.bool true) ∧ TableAt 100 102 2 w' S b m (es.set k (es[k].1, .string s)) L ∧ Fr S w w' := by
  have hF := findS S b m L es id w h hs
  have H : Hid _ := h
  have hr : Rise es := by obtain ⟨v, _, _, _, _, h4, _⟩ := h; exact h4
  have hat := isAt_yes hk hid
  have HR : Hid _ := hr
  have HS : Hid _ := hs
  have HD : Hid _ := hid
  have HAT : Hid _ := hat
  clear hr hs hid hat h
  go_enter Try.func39, Try.ntmps39
  go_wp2_with fail
  refine hF.mono ?_; rintro e w1 ⟨⟨i, hi, rfl⟩, b1⟩
  obtain rfl := low_eq hi hk HR.out HD.out
  rw [HAT.out]
  clear hF hi
  obtain ⟨v, hb, h1, h2, h3, h4, h5, h6, h7⟩ := TableAt.below H.out b1
  obtain ⟨c0, c1, c2, hlt⟩ := hb.cells
  have hfl := flat_length h5
  obtain ⟨g, cap, rfl, hc1, hc2, hgb, hSg, hgl, hcs, hfz⟩ := hb.at (j := i * 2 + 1) (by omega)
  have r1 := hcs (i * 2 + 1) (by omega)
  have r2 := hfz (i * 2 + 1) (by omega)
  obtain ⟨x, hx⟩ : ∃ x, (flat es)[i * 2 + 1] = x := ⟨_, rfl⟩
  rw [hx] at r1
  have hb2 := hb.setRow (j := i * 2 + 1) (by omega) (.string s) rfl
  rw [← flat_set h5 hk rfl rfl (AllS.cells HS.out i hk)] at hb2
  have hT : TableAt 100 102 2 (w1.setCell ⟨g, i * 2 + 1, none⟩ (.string s)) S b m (es.set i (es[i].1, .string s)) L := by
    refine ⟨_, by rw [List.length_set]; exact hb2, h1, h2, by rw [List.length_set]; exact h3, h4.set hk rfl, fun e he => ?_, fun k hk' => ?_, h7⟩
    · rcases List.mem_or_eq_of_mem_set he with he | rfl
      · exact h5 e he
      · rfl
    · rw [List.length_set] at hk'
      rw [List.getElem_set]
      split
      · exact h6 i hk
      · exact h6 k hk'
  have HT : Hid _ := hT
  have hFr : Fr S w (w1.setCell ⟨g, i * 2 + 1, none⟩ (.string s)) := (Fr.of_below S b1).setCell (p := ⟨g, i * 2 + 1, none⟩) hSg _
  have hi' : (i : Int) < (es.length : Int) := by omega
  unfold maxLen at hc2
  clear h4 h5 h6 hb hx hT hb2 hcs hfz hfl
  go_wp2_with fail
  go_ret
  exact ⟨rfl, HT.out, hFr⟩
set_option maxHeartbeats 1000000 in
theorem dropS_yes (S : Nat → Prop) (b m L : Nat) (es : List (Nat × Value)) (id : Int) (k : Nat) (hk : k < es.length) (w : World) (h : TableAt 100 102 2 w S b m es L) (hs : AllS es) (hid : (es[k].1 : Int) = id) :
    Calls Try.prog 38 #[.pointer (some ⟨b, 0, none⟩), .int .i64 id] w fun e w' => e = .returned (.bool true) ∧ ∃ S', TableAt 100 102 2 w' S' b m (es.eraseIdx k) L ∧ Fr S w w' ∧ Sub w S S' := by
  have hF := findS S b m L es id w h hs
  have H : Hid _ := h
  have hr : Rise es := by obtain ⟨v, _, _, _, _, h4, _⟩ := h; exact h4
  have hat := isAt_yes hk hid
  have HR : Hid _ := hr
  have HS : Hid _ := hs
  have HD : Hid _ := hid
  have HAT : Hid _ := hat
  clear hr hs hid hat h
  go_enter Try.func38, Try.ntmps38
  go_wp2_with fail
  refine hF.mono ?_; rintro e w1 ⟨⟨i, hi, rfl⟩, b1⟩
  obtain rfl := low_eq hi hk HR.out HD.out
  rw [HAT.out]
  clear hF hi
  obtain ⟨v, hb, h1, h2, h3, h4, h5, h6, h7⟩ := TableAt.below H.out b1
  obtain ⟨c0, c1, c2, hlt⟩ := hb.cells
  obtain ⟨n, hn⟩ : ∃ n, es.length = n + 1 := ⟨es.length - 1, by omega⟩
  rw [hn] at hb
  rcases hb.own.2 with ⟨_, h0⟩ | ⟨g, cap, cur, rfl, _, hg, hc1, hc2, hcs, htk⟩
  · omega
  have hdel := deleteS g cap n i cur w1 hg hcs hc1 hc2 (by omega) (by rw [htk]; exact hb.one)
  have HB : Hid _ := hb
  have HF : Hid _ := h5
  have HI : Hid _ := h4
  have H6 : Hid _ := h6
  have HK : Hid _ := htk
  unfold maxLen at hc2
  clear h4 h5 h6 hb htk hg
  go_wp2_with fail
  refine hdel.mono ?_; rintro e w2 ⟨rfl, ⟨cur', hg', hcs', htk'⟩, hF2⟩
  have hgr : w1.grownBy w2 (Value.slice (some ⟨g, 0, none⟩) (n + 1) cap).ownBlock := ⟨hF2.os, hF2.tape, hF2.output, hF2.size, fun j hj hne => hF2.block j hj (fun e => hne (by rw [e]; rfl))⟩
  have hflat : cur'.toList.take (n * 2) = flat (es.eraseIdx i) := by
    have e1 : cur.toList.take ((n + 1) * 2) = flat es := HK.out
    have e2 : cur.toList.take (i * 2) = flat (es.take i) := by
      rw [← flat_take HF.out (by omega), ← e1, List.take_take]; congr 1; omega
    have e3 : (cur.toList.drop ((i + 1) * 2)).take ((n - i) * 2) = flat (es.drop (i + 1)) := by
      rw [← flat_drop HF.out (by omega), ← e1, List.drop_take]; congr 1; omega
    rw [htk', e2, e3, ← flat_append, List.eraseIdx_eq_take_drop_succ]
  have hlen : (es.eraseIdx i).length = n := by rw [List.length_eraseIdx, if_pos (by omega)]; omega
  have hone : ∀ u ∈ flat (es.eraseIdx i), u.oneCell' = true := by
    intro u hu
    refine HB.out.one u ?_
    rw [List.eraseIdx_eq_take_drop_succ, flat_append] at hu
    rcases List.mem_append.1 hu with hu | hu
    · rw [← flat_take HF.out (by omega)] at hu; exact List.mem_of_mem_take hu
    · rw [← flat_drop HF.out (by omega)] at hu; exact List.mem_of_mem_drop hu
  have hown : w2.ownsRow 0 102 2 (.slice (some ⟨g, 0, none⟩) n cap) n (flat (es.eraseIdx i)) :=
    ⟨by rw [flat_length (Fit.eraseIdx HF.out i), hlen], .inr ⟨g, cap, cur', rfl, Nat.zero_le _, hg', by omega, by unfold maxLen; omega, by omega, hflat⟩⟩
  have hG := HB.out.grown (Fr.refl _ w1) hgr hown (fun j hj => .inl hj) hone
  obtain ⟨d0, d1, d2, d3⟩ := HB.out.grown_cells (Fr.refl _ w1) hgr
  have HG : Hid _ := hG
  have HL : Hid _ := hlen
  clear hdel hF2 hgr hflat hone hown hG htk' hlen hg'
  go_wp2_with fail
  go_ret
  obtain ⟨hb2, hf2⟩ := HG.out
  refine ⟨rfl, _, ⟨_, by rw [HL.out]; exact hb2, h1, h2, by rw [HL.out]; omega, Rise.eraseIdx HI.out i, Fit.eraseIdx HF.out i, fun k hk' => ?_, h7⟩, (Fr.of_below S b1).trans hf2 (fun _ _ h => h), fun k (hk' : S k ∨ (w1.heap.size ≤ k ∧ k < w2.heap.size)) => hk'.imp (fun e => e) (fun e => Nat.le_trans b1.size e.1)⟩
  rw [HL.out] at hk'
  rw [List.getElem_eraseIdx]
  split
  · exact H6.out k (by omega)
  · exact H6.out (k + 1) (by omega)
theorem ones_two {ys : List Value} {x y : Value} (h : ∀ u ∈ ys, u.oneCell' = true) (h1 : x.oneCell' = true) (h2 : y.oneCell' = true) : ∀ u ∈ ys ++ [x, y], u.oneCell' = true := by
  intro u hu
  rcases List.mem_append.1 hu with hu | hu
  · exact h u hu
  · simp at hu; rcases hu with rfl | rfl <;> assumption
theorem table_added {T E sz : Nat} {w : World} {S : Nat → Prop} {b m L : Nat} {es : List (Nat × Value)} {x v : Value} (h : Box T E sz w S b m (es.length + 1) (flat es ++ (.int .i64 ((L : Int) + 1) :: x.cells.toList)) ((L : Int) + 1) v) (h1 : 1 ≤ m) (h2 : m ≤ 1000) (h3 : es.length < m) (h4 : Rise es) (h5 : Fit sz es) (h6 : ∀ k (hk : k < es.length), 1 ≤ es[k].1 ∧ es[k].1 ≤ L) (h7 : L < 1000000) (hx : x.cells.size + 1 = sz) :
    TableAt T E sz w S b m (es ++ [(L + 1, x)]) (L + 1) := by
  refine ⟨v, ?_, h1, h2, by rw [List.length_append]; exact h3, h4.snoc (fun k hk => (h6 k hk).2) (Nat.lt_succ_self _), fun e he => ?_, fun k hk => ?_, h7⟩
  · have e : flat (es ++ [(L + 1, x)]) = flat es ++ (.int .i64 ((L : Int) + 1) :: x.cells.toList) := by
      rw [flat_append]; simp [flat]
    rw [e, List.length_append]
    exact h
  · rcases List.mem_append.1 he with he | he
    · exact h5 e he
    · rw [List.mem_singleton] at he; subst he; exact hx
  · rw [List.length_append] at hk
    by_cases hk2 : k < es.length
    · rw [List.getElem_append_left hk2]; have := h6 k hk2; omega
    · rw [List.getElem_append_right (by omega)]; simp
theorem addS_full (S : Nat → Prop) (b m L : Nat) (es : List (Nat × Value)) (s : ByteArray) (w : World) (h : TableAt 100 102 2 w S b m es L) (hf : es.length = m) :
    Calls Try.prog 37 #[.pointer (some ⟨b, 0, none⟩), .string s] w fun e w' => e = .returned (.tuple #[.int .i64 0, .int .i64 5]) ∧ Below w.heap.size w w' := by
  obtain ⟨v, hb, h1, h2, h3, h4, h5, h6, h7⟩ := h
  obtain ⟨c0, c1, c2, hlt⟩ := hb.cells
  obtain ⟨a, cap, rfl, _, _⟩ := hb.form
  subst hf
  have hr' : (es.length : Int) ≤ (es.length : Int) := by omega
  clear h4 h5 h6 hb
  go_enter Try.func37, Try.ntmps37
  go_wp2_with fail
  go_quiet (fail)
  go_wp2
  go_ret2
  exact ⟨rfl, below_drewN _ _⟩
set_option maxRecDepth 100000 in
set_option maxHeartbeats 1000000 in
theorem addS_room (S : Nat → Prop) (b m L : Nat) (es : List (Nat × Value)) (s : ByteArray) (w : World) (h : TableAt 100 102 2 w S b m es L) (hf : es.length < m) (hL : L < 1000000) :
    Calls Try.prog 37 #[.pointer (some ⟨b, 0, none⟩), .string s] w fun e w' => e = .returned (.tuple #[.int .i64 (L + 1 : Nat), .int .i64 0]) ∧ ∃ S', TableAt 100 102 2 w' S' b m (es ++ [(L + 1, .string s)]) (L + 1) ∧ Fr S w w' ∧ Sub w S S' := by
  obtain ⟨v, hb, h1, h2, h3, h4, h5, h6, h7⟩ := h
  obtain ⟨c0, c1, c2, hlt⟩ := hb.cells
  obtain ⟨a, cap, rfl, _, hcm⟩ := hb.form
  have fz := hb.thaw 2
  have hr' : ¬ (m : Int) ≤ (es.length : Int) := by omega
  obtain ⟨i0, hi0, hz0, hz1, hz2⟩ := info_parts info_rS
  have HB : Hid _ := hb
  have HF : Hid _ := h5
  have HI : Hid _ := h4
  have H6 : Hid _ := h6
  unfold maxLen at hcm
  clear h4 h5 h6 hb
  go_enter Try.func37, Try.ntmps37
  go_wp2_with fail
  go_quiet (fail)
  go_wp2_with fail
  have hbW := (HB.out.drewN nq).setThird ((L : Int) + 1)
  have hFW : Fr S w ((w.drewN nq).setCell ⟨b, 2, none⟩ (.int .i64 ((L : Int) + 1))) := ((Fr.refl S w).drewN nq).setCell (p := ⟨b, 2, none⟩) HB.out.inb _
  generalize (w.drewN nq).setCell ⟨b, 2, none⟩ (.int .i64 ((L : Int) + 1)) = W at *
  obtain ⟨c0, c1, c2, hlt⟩ := hbW.cells
  have HW : Hid _ := hbW
  clear hbW fz
  go_region_law ((refine step_append_lies _ (by rfl) _ _ 98 (by rfl) 0 102 i0 (.agg #[.int .i64 0, .string ⟨#[]⟩]) 2 24 Try.underlying98 hi0 hz0 hz1 hz2 rfl (by decide) _ es.length (flat es) (by rfl) ((HW.out.drewN 1).own.alloc _) ⟨W.heap.size, 0, none⟩ 1 1 [.int .i64 ((L : Int) + 1), .string s] (by rfl) rfl (World.news_of_block (heap_alloc_new _ _)) (by intro u hu; simp at hu; rcases hu with rfl | rfl <;> rfl) (by decide) (by unfold maxLen; omega) (by omega) (Nat.zero_le _) (W.heap.size + 1) (by simp) ?_; intro g cap' w1 hown' hgrow hat hglt; obtain ⟨d0, d1, d2, d3⟩ := HW.out.grown_cells (Fr.start_alloc _ _ 1 _) hgrow; have HG : Hid _ := HW.out.grown (Fr.start_alloc _ _ 1 _) hgrow hown' (own_new hat (Nat.le_succ _)) (ones_two HW.out.one rfl rfl); clear hat hown' hgrow hglt))
  all_goals
    go_wp2
    go_ret2
    obtain ⟨hb2, hf2⟩ := HG.out
    exact ⟨rfl, _, table_added hb2 h1 h2 hf HI.out HF.out H6.out hL rfl, hFW.trans hf2 (fun _ _ h => h), fun k (hk' : S k ∨ (W.heap.size ≤ k ∧ k < w1.heap.size)) => hk'.imp (fun e => e) (fun e => Nat.le_trans hFW.size e.1)⟩
end Go.Proofs.Ytechkkidebkadaa
