/- Layer 2's own answer (embrasureref02): Ring.Push. -/
import Derived.Deep.Cut
import Derived.Test.YtiejgkpjckjonaaRfD
namespace Go.Proofs.Ytiejgkpjckjonaa
open Go.RowKit
set_option linter.unusedVariables false
attribute [local go_sem ↓] Go.wp_at_zero Go.wp_at_succ

/-- The document's own ring: all within S. -/
structure RefR (W : World) (S : Nat → Prop) (rb : Nat) (mo : Int) (xs : List Value) (a : Option Addr) (cap : Nat) : Prop where
  obj : W.heap[rb]? = some (.cells #[.int .i64 mo, .slice a xs.length cap] 28 (0, 0))
  inb : S rb
  le : xs.length ≤ cap
  most : cap ≤ maxLen
  row : (xs = [] ∧ a = none ∧ cap = 0) ∨ ∃ g o, a = some ⟨g, o, none⟩ ∧ S g ∧ g ≠ rb ∧ ∀ i (hi : i < xs.length), W.cell? ⟨g, o + i, none⟩ = some xs[i]
  lt : ∀ k, S k → k < W.heap.size
  one : ∀ u ∈ xs, u.oneCell' = true
theorem RefR.keep {W W' : World} {S S' : Nat → Prop} {rb : Nat} {mo : Int} {xs : List Value} {a : Option Addr} {cap : Nat} (h : RefR W S rb mo xs a cap) (hf : Fr S' W W') (hd : ∀ k, S k → ¬ S' k) : RefR W' S rb mo xs a cap := by
  refine ⟨by rw [hf.block rb (h.lt rb h.inb) (hd rb h.inb)]; exact h.obj, h.inb, h.le, h.most, ?_, fun k hk => Nat.lt_of_lt_of_le (h.lt k hk) hf.size, h.one⟩
  rcases h.row with h1 | ⟨g, o, h1, h2, h3, h4⟩
  · exact .inl h1
  · exact .inr ⟨g, o, h1, h2, h3, fun i hi => (World.cell?_of_block (a := ⟨g, o + i, none⟩) (hf.block g (h.lt g h2) (hd g h2))).trans (h4 i hi)⟩
theorem RefR.keepC {W W' : World} {S X : Nat → Prop} {rb : Nat} {mo : Int} {xs : List Value} {a : Option Addr} {cap : Nat} (h : RefR W S rb mo xs a cap) (hf : Kc X W W') (hd : ∀ k, S k → ¬ X k) : RefR W' S rb mo xs a cap := by
  refine ⟨hf.same rb _ h.obj rfl (hd rb h.inb), h.inb, h.le, h.most, ?_, fun k hk => Nat.lt_of_lt_of_le (h.lt k hk) hf.size, h.one⟩
  rcases h.row with h1 | ⟨g, o, h1, h2, h3, h4⟩
  · exact .inl h1
  · exact .inr ⟨g, o, h1, h2, h3, fun i hi => hf.cell (h4 i hi) (hd g h2)⟩
theorem RefR.below {W W' : World} {S : Nat → Prop} {rb : Nat} {mo : Int} {xs : List Value} {a : Option Addr} {cap : Nat} (h : RefR W S rb mo xs a cap) (hb : Below W.heap.size W W') : RefR W' S rb mo xs a cap :=
  h.keep (S' := fun _ => False) (Fr.of_below _ hb) (fun _ _ e => e)
theorem RefR.cells {W : World} {S : Nat → Prop} {rb : Nat} {mo : Int} {xs : List Value} {a : Option Addr} {cap : Nat} (h : RefR W S rb mo xs a cap) : W.cell? ⟨rb, 0, none⟩ = some (.int .i64 mo) ∧ W.cell? ⟨rb, 1, none⟩ = some (.slice a xs.length cap) ∧ W.frozen? ⟨rb, 1, none⟩ = false := by
  refine ⟨?_, ?_, by simp [World.frozen?, h.obj]⟩ <;> rw [cell_of_row W rb _ _ _ (0, 0) h.obj] <;> rfl
theorem own_empty (w : World) : (w.alloc (.cells #[] 3)).ownsRow w.heap.size 3 1 (.slice (some ⟨w.heap.size, 0, none⟩) 0 0) 0 [] :=
  World.ownsRow_made w #[] 0 (Nat.le_refl _) (by unfold maxLen; omega) rfl
/-- Behind the two appends, the new row stored. -/
theorem RefR.pushed {w w1 : World} {S : Nat → Prop} {rb : Nat} {mo : Int} {xs ys : List Value} {a : Option Addr} {cap g n cap' : Nat} (h : RefR w S rb mo xs a cap) (hb : Below w.heap.size w w1) (ho : w1.ownsRow w.heap.size 3 1 (.slice (some ⟨g, 0, none⟩) n cap') n ys) (hn : n = ys.length) (h1 : ∀ u ∈ ys, u.oneCell' = true) :
    RefR (w1.setCell ⟨rb, 1, none⟩ (.slice (some ⟨g, 0, none⟩) n cap')) (fun k => S k ∨ (w.heap.size ≤ k ∧ k < w1.heap.size)) rb mo ys (some ⟨g, 0, none⟩) cap' ∧ Fr S w (w1.setCell ⟨rb, 1, none⟩ (.slice (some ⟨g, 0, none⟩) n cap')) := by
  subst hn
  have hrb := h.lt rb h.inb
  have hob : w1.heap[rb]? = some (.cells #[.int .i64 mo, .slice a xs.length cap] 28 (0, 0)) := by rw [hb.block rb hrb]; exact h.obj
  have hg := ho.lt g rfl
  have hne : g ≠ rb := by omega
  have hcl : ys.length ≤ cap' ∧ cap' ≤ maxLen := by
    rcases ho.2 with ⟨e, _⟩ | ⟨_, _, _, e, _, _, h5, h6, _⟩
    · cases e
    · cases e; exact ⟨h5, h6⟩
  refine ⟨⟨by rw [heap_set_same hob]; rfl, .inl h.inb, hcl.1, hcl.2, .inr ⟨g, 0, rfl, .inr hg, hne, fun i hi => ?_⟩, fun k hk => ?_, h1⟩, (Fr.of_below S hb).setCell (p := ⟨rb, 1, none⟩) h.inb _⟩
  · have := ho.cells (g := g) rfl i ys[i] (List.getElem?_eq_getElem hi)
    rw [Addr.add_lit, Nat.zero_add] at this
    rw [Nat.zero_add, cell_set_other _ (Ne.symm hne)]; exact this
  · have e : (w1.setCell ⟨rb, 1, none⟩ (.slice (some ⟨g, 0, none⟩) ys.length cap')).heap.size = w1.heap.size := by simp [World.setCell]
    rw [e]
    rcases hk with hk | hk
    · exact Nat.lt_of_lt_of_le (h.lt k hk) hb.size
    · exact hk.2
theorem wp_cutR {P : Program} {c : Code} {K : Act → World → Prop} {Q : Exit → Act → World → Prop} {a : Act} {w : World} (R : Act → World → Prop) (h1 : c.wp P (Exit.then R (fun _ _ _ => False)) a w) (h2 : ∀ a' w', R a' w' → K a' w') : c.wp P (Exit.then K Q) a w := by
  refine Code.wp_mono ?_ h1
  intro e a' W h
  cases e with
  | normal => exact h2 _ _ h
  | _ => exact h.elim
set_option maxRecDepth 100000 in
set_option maxHeartbeats 1000000 in
theorem refPush (S : Nat → Prop) (rb : Nat) (mo : Int) (m : Nat) (xs : List Value) (a : Option Addr) (cap : Nat) (x : Int) (w : World) (h : RefR w S rb mo xs a cap) (hl : xs.length ≤ 1000) (hm : max mo 1 = (m : Int)) (Po : Ending → World → Prop)
    (hP1 : xs.length < m → ∀ w' S' a' cap', RefR w' S' rb mo (xs ++ [Value.int .i64 x]) a' cap' → Fr S w w' → Sub w S S' → Po (.returned (.tuple #[.int .i64 0, .bool false])) w')
    (hP2 : ¬ xs.length < m → ∀ v w' S' a' cap', (xs ++ [Value.int .i64 x]).head? = some v → RefR w' S' rb mo (xs ++ [Value.int .i64 x]).tail a' cap' → Fr S w w' → Sub w S S' → Po (.returned (.tuple #[v, .bool true])) w') :
    Calls Try.prog 14 #[.pointer (some ⟨rb, 0, none⟩), .int .i64 x] w Po := by
  have HP1 := hid hP1; have HP2 := hid hP2
  have hin : S rb := h.inb
  clear hP1 hP2
  obtain ⟨c0, c1, f1⟩ := h.cells
  obtain ⟨i0, hi, hz0, hz1, hz2⟩ := info_parts info_I
  have H := hid h
  have hrb := h.lt rb h.inb
  go_enter Try.func14, Try.ntmps14
  go_upto_region 1 with fail
  obtain ⟨R1, hR1⟩ : ∃ R1 : Act → World → Prop, R1 = (fun a' w' => ∃ (u1 u2 u3 u6 u7 u8 u9 u10 u11 u12 u13 u14 u15 u16 u17 u18 u19 u20 u21 u22 u23 u24 u25 u26 u27 u28 u29 u30 u31 u32 u33 u34 u35 u36 u37 u38 u39 u40 u41 u42 u43 u44 : Value) (ds : List Deferred), (ds = [] ∧ ∃ (S' : Nat → Prop) (g capn : Nat), RefR w' S' rb mo (xs ++ [Value.int .i64 x]) (some ⟨g, 0, none⟩) capn ∧ Fr S w w' ∧ Sub w S S') ∧ a' = { tmps := #[.pointer (some ⟨rb, 0, none⟩), u1, u2, u3, .int .i64 0, .bool false, u6, u7, u8, u9, u10, u11, u12, u13, u14, u15, u16, u17, u18, u19, u20, u21, u22, u23, u24, u25, u26, u27, u28, u29, u30, u31, u32, u33, u34, u35, u36, u37, u38, u39, u40, u41, u42, u43, u44], defers := ds }) := ⟨_, rfl⟩
  have HR1 := hid hR1
  clear hR1
  refine wp_cutR R1 ?_ ?_
  · rcases h.row with ⟨rfl, rfl, rfl⟩ | ⟨g, o, rfl, hSg, hgb, hcs⟩
    · have c1 : w.cell? ⟨rb, 1, none⟩ = some (.slice none 0 0) := c1
      clear h
      go_wp2_with (at_builtin; refine wpList_append_lies _ rfl _ _ 22 rfl w.heap.size 3 i0 (.int .i64 0) 1 8 Try.underlying22 hi hz0 hz1 hz2 rfl (by decide) _ 0 [] rfl ((own_empty w).alloc _) ⟨w.heap.size + 1, 0, none⟩ 1 1 [.int .i64 x] rfl rfl (World.news_of_block (by rw [← World.size_alloc w (.cells #[] 3)]; exact heap_alloc_new _ _)) (by intro u hu; rw [List.mem_singleton] at hu; subst hu; rfl) (by decide) (by unfold maxLen; omega) (by decide) (by simp; omega) (w.heap.size + 1 + 1) (by simp) ?_; intro g' cap' w1 ho hg hat hlt; have hB1 : Below w.heap.size w w1 := (((Below.refl _ w).alloc (Nat.le_refl _) _).alloc (by simp) _).grown hg (by simp; omega) (fun k e => by cases e; exact Nat.le_refl _); have HP := hid (H.out.pushed hB1 ho rfl (by intro u hu; simp at hu; subst hu; rfl)); have d1 := (hB1.cell (p := ⟨rb, 1, none⟩) hrb).trans c1; have d0 := (hB1.cell (p := ⟨rb, 0, none⟩) hrb).trans c0; have df := (hB1.frozen (p := ⟨rb, 1, none⟩) hrb).trans f1; have hsz1 := hB1.size; clear ho hg hat hlt hB1)
      rw [HR1.out]
      (repeat apply Exists.intro)
      refine ⟨?_, rfl⟩
      obtain ⟨k1, k2⟩ := HP.out
      exact ⟨rfl, _, _, _, k1, k2, fun k hk => hk.imp (fun e => e) (fun e => e.1)⟩
    · have HC := hid hcs
      have tok : Hid True := trivial
      have hgl := h.lt g hSg
      clear h hcs
      go_wp2_with (first
        | (at_builtin; (have tok2 := tok.out); clear tok tok2; refine wpList_append_own _ rfl _ _ 22 rfl w.heap.size 3 i0 (.int .i64 0) 1 8 Try.underlying22 hi hz0 hz1 hz2 rfl (by decide) _ 0 [] rfl (own_empty w) ⟨g, o, none⟩ xs.length cap xs rfl (by rw [Nat.mul_one]) (fun j u hu => by obtain ⟨hj, he⟩ := List.getElem?_eq_some_iff.1 hu; rw [Addr.add_lit]; exact (Below.cell (B := w.heap.size) ((Below.refl _ w).alloc (Nat.le_refl _) _) (p := ⟨g, o + j, none⟩) hgl).trans ((HC.out j hj).trans (by rw [he]))) H.out.one (by unfold maxLen; omega) (by omega) (by simp) ?_; intro v1 w1 ho hg _; have hB1 : Below w.heap.size w w1 := ((Below.refl _ w).alloc (Nat.le_refl _) _).grown hg (by simp) (fun k e => by cases e; exact Nat.le_refl _); rw [Nat.zero_add, List.nil_append] at ho; have HO1 := hid ho; have hsz1 := hB1.size; clear ho hg)
        | (at_builtin; have HO1' := HO1.out; refine wpList_append_lies _ rfl _ _ 22 rfl w.heap.size 3 i0 (.int .i64 0) 1 8 Try.underlying22 hi hz0 hz1 hz2 rfl (by decide) _ xs.length xs rfl (HO1'.alloc _) ⟨w1.heap.size, 0, none⟩ 1 1 [.int .i64 x] rfl rfl (World.news_of_block (heap_alloc_new _ _)) (by intro u hu; rw [List.mem_singleton] at hu; subst hu; rfl) (by decide) (by unfold maxLen; omega) (by omega) (by simp; omega) (w1.heap.size + 1) (by simp) ?_; intro g' cap' w2 ho hg hat hlt; have hB2 : Below w.heap.size w w2 := (hB1.alloc hsz1 _).grown hg (by simp; omega) (fun k e => (HO1'.lt k e).1); have HP := hid (H.out.pushed hB2 ho (by simp) (ones_snoc H.out.one rfl)); have d1 := (hB2.cell (p := ⟨rb, 1, none⟩) hrb).trans c1; have d0 := (hB2.cell (p := ⟨rb, 0, none⟩) hrb).trans c0; have df := (hB2.frozen (p := ⟨rb, 1, none⟩) hrb).trans f1; clear ho hg hat hlt hB2 hB1 HO1 HO1'))
      rw [HR1.out]
      (repeat apply Exists.intro)
      refine ⟨?_, rfl⟩
      obtain ⟨k1, k2⟩ := HP.out
      exact ⟨rfl, _, _, _, k1, k2, fun k hk => hk.imp (fun e => e) (fun e => e.1)⟩
  · intro a' w3 hinv
    rw [HR1.out] at hinv
    clear HR1 c0 c1 f1 H h
    obtain ⟨u1, hinv⟩ := hinv
    obtain ⟨u2, hinv⟩ := hinv
    obtain ⟨u3, hinv⟩ := hinv
    obtain ⟨u6, hinv⟩ := hinv
    obtain ⟨u7, hinv⟩ := hinv
    obtain ⟨u8, hinv⟩ := hinv
    obtain ⟨u9, hinv⟩ := hinv
    obtain ⟨u10, hinv⟩ := hinv
    obtain ⟨u11, hinv⟩ := hinv
    obtain ⟨u12, hinv⟩ := hinv
    obtain ⟨u13, hinv⟩ := hinv
    obtain ⟨u14, hinv⟩ := hinv
    obtain ⟨u15, hinv⟩ := hinv
    obtain ⟨u16, hinv⟩ := hinv
    obtain ⟨u17, hinv⟩ := hinv
    obtain ⟨u18, hinv⟩ := hinv
    obtain ⟨u19, hinv⟩ := hinv
    obtain ⟨u20, hinv⟩ := hinv
    obtain ⟨u21, hinv⟩ := hinv
    obtain ⟨u22, hinv⟩ := hinv
    obtain ⟨u23, hinv⟩ := hinv
    obtain ⟨u24, hinv⟩ := hinv
    obtain ⟨u25, hinv⟩ := hinv
    obtain ⟨u26, hinv⟩ := hinv
    obtain ⟨u27, hinv⟩ := hinv
    obtain ⟨u28, hinv⟩ := hinv
    obtain ⟨u29, hinv⟩ := hinv
    obtain ⟨u30, hinv⟩ := hinv
    obtain ⟨u31, hinv⟩ := hinv
    obtain ⟨u32, hinv⟩ := hinv
    obtain ⟨u33, hinv⟩ := hinv
    obtain ⟨u34, hinv⟩ := hinv
    obtain ⟨u35, hinv⟩ := hinv
    obtain ⟨u36, hinv⟩ := hinv
    obtain ⟨u37, hinv⟩ := hinv
    obtain ⟨u38, hinv⟩ := hinv
    obtain ⟨u39, hinv⟩ := hinv
    obtain ⟨u40, hinv⟩ := hinv
    obtain ⟨u41, hinv⟩ := hinv
    obtain ⟨u42, hinv⟩ := hinv
    obtain ⟨u43, hinv⟩ := hinv
    obtain ⟨u44, hinv⟩ := hinv
    obtain ⟨ds, ⟨rfl, S3, g, capn, h3, hF3, hs3⟩, ha⟩ := hinv
    subst ha
    have hln : (xs ++ [Value.int .i64 x]).length = xs.length + 1 := by simp
    obtain ⟨c0, c1, f1⟩ := h3.cells
    rw [hln] at c1
    have hcm := h3.most
    have hlc := h3.le
    rw [hln] at hlc
    unfold maxLen at hcm
    have H3 := hid h3
    have hcase : (1 ≤ mo ∧ mo = (m : Int)) ∨ (mo < 1 ∧ m = 1) := by omega
    by_cases hlm : xs.length < m
    · have hcs2 : (xs.length : Int) + 1 ≤ (m : Int) := by omega
      rcases hcase with ⟨k1, rfl⟩ | ⟨k1, rfl⟩
      all_goals
        clear hm
        go_wp2_with fail
        go_quiet (fail)
        go_wp2_with fail
        exact HP1.out hlm _ S3 _ _ (H3.out.keep (S' := fun _ => False) ((Fr.refl _ _).drewN _) (fun _ _ e => e)) (hF3.drewN _) hs3
    · have hcs2 : ¬ (xs.length : Int) + 1 ≤ (m : Int) := by omega
      obtain ⟨v, hv⟩ : ∃ v, (xs ++ [Value.int .i64 x]).head? = some v := by cases xs <;> exact ⟨_, rfl⟩
      have cv : w3.cell? ⟨g, 0, none⟩ = some v := by
        rcases H3.out.row with ⟨e, _⟩ | ⟨g', o', e, _, _, hc⟩
        · simp at e
        · cases e
          have := hc 0 (by rw [hln]; omega)
          rw [Nat.add_zero] at this
          rw [this]
          rw [List.head?_eq_getElem?, List.getElem?_eq_getElem (by rw [hln]; omega)] at hv
          exact hv
      have hc1 : ¬ capn = 1 := by omega
      have hT : ∀ q : Nat, RefR ((w3.drewN q).setCell ⟨rb, 1, none⟩ (.slice (some ⟨g, 1, none⟩) xs.length (capn - 1))) S3 rb mo (xs ++ [Value.int .i64 x]).tail (some ⟨g, 1, none⟩) (capn - 1) := by
        intro q
        have hq := H3.out.keep (S' := fun _ => False) ((Fr.refl _ w3).drewN q) (fun _ _ e => e)
        have htl : (xs ++ [Value.int .i64 x]).tail.length = xs.length := by simp
        refine ⟨by rw [htl, heap_set_same hq.obj]; rfl, hq.inb, by rw [htl]; omega, by unfold maxLen; omega, ?_, fun k hk => by have := hq.lt k hk; simpa [World.setCell] using this, fun u hu => H3.out.one u (List.mem_of_mem_tail hu)⟩
        rcases hq.row with ⟨e, _⟩ | ⟨g', o', e, h5, h6, hc⟩
        · simp at e
        · cases e
          refine .inr ⟨g, 1, rfl, h5, h6, fun i hi => ?_⟩
          rw [cell_set_other _ (Ne.symm h6), List.getElem_tail]
          have := hc (i + 1) (by rw [hln]; rw [htl] at hi; omega)
          rw [Nat.zero_add] at this
          rw [Nat.add_comm 1 i]; exact this
      have HT := hid hT; have HV := hid hv
      clear hT hv
      rcases hcase with ⟨k1, rfl⟩ | ⟨k1, rfl⟩
      all_goals
        clear hm
        go_wp2_with fail
        go_quiet (fail)
        go_wp2_with fail
        exact HP2.out hlm v _ S3 _ _ HV.out (HT.out _) ((hF3.drewN _).setCell (p := ⟨rb, 1, none⟩) hin _) hs3
#print axioms refPush
end Go.Proofs.Ytiejgkpjckjonaa
