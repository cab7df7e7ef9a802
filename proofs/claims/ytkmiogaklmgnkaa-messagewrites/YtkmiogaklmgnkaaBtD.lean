/- Layer 3 (bits): Writer.Put. -/
import Derived.Test.YtkmiogaklmgnkaaBtC
namespace Go.Proofs.Ytkmiogaklmgnkaa
open Go.RowKit Go.Shelf
set_option linter.unusedVariables false
attribute [local go_sem] Oper.semAt_some

theorem WrAt.keepC {w w' : World} {S X : Nat → Prop} {b : Nat} {bs : List Bool} (h : WrAt w S b bs) (hf : Kc X w w') (hd : ∀ k, S k → ¬ X k) : WrAt w' S b bs := by
  obtain ⟨ys, f, v, hb, r⟩ := h; exact ⟨ys, f, v, hb.keepC hf hd, r⟩
/-- The box behind an append to its row, both fields stored. -/
theorem Bx.grown {T : TypeId} {w W w1 : World} {S : Nat → Prop} {b : Nat} {ys ys' : List Nat} {f : Int} {v v' : Value} (h : Bx T w S b ys f v) (hW : Fr (fun _ => False) w W) (hg : W.grownBy w1 v.ownBlock)
    (ho : w1.ownsRow 0 5 1 v' ys'.length (u8s ys')) (hv : ∀ k, v'.ownBlock = some k → v.ownBlock = some k ∨ w.heap.size ≤ k) (f' : Int) :
    Bx T ((w1.setCell ⟨b, 0, none⟩ v').setCell ⟨b, 1, none⟩ (.int .i64 f')) (fun k => S k ∨ (w.heap.size ≤ k ∧ k < w1.heap.size)) b ys' f' v' ∧ Fr S w ((w1.setCell ⟨b, 0, none⟩ v').setCell ⟨b, 1, none⟩ (.int .i64 f')) := by
  have hb := h.lt b h.inb
  have hs := Nat.le_trans hW.size hg.size
  have hne : some b ≠ v.ownBlock := fun e => (h.inr b e.symm).2 rfl
  have ho1 : w1.heap[b]? = some (.cells #[v, .int .i64 f] T (0, 0)) := by
    rw [hg.block b (Nat.lt_of_lt_of_le hb hW.size) hne, hW.block b hb (fun e => e)]; exact h.obj
  have hnb : ∀ k, v'.ownBlock = some k → k ≠ b := fun k hk e => by
    rcases hv k hk with h2 | h2
    · exact (h.inr k h2).2 e
    · omega
  refine ⟨⟨?_, ?_, .inl h.inb, fun k hk => ⟨?_, hnb k hk⟩, fun k hk => ?_⟩, ?_⟩
  · rw [heap_set_same (heap_set_same ho1 v')]; rfl
  · refine ⟨ho.1, ?_⟩
    rcases ho.2 with hn | ⟨g, cap, cur, hv', hb', hg', r⟩
    · exact .inl hn
    · refine .inr ⟨g, cap, cur, hv', hb', ?_, r⟩
      have := hnb g (by rw [hv']; rfl)
      rw [Below.heap_setCell _ _ _ _ this, Below.heap_setCell _ _ _ _ this]; exact hg'
  · rcases hv k hk with h2 | h2
    · exact .inl (h.inr k h2).1
    · exact .inr ⟨h2, (ho.lt k hk).2⟩
  · have e : ((w1.setCell ⟨b, 0, none⟩ v').setCell ⟨b, 1, none⟩ (.int .i64 f')).heap.size = w1.heap.size := by simp [World.setCell]
    rw [e]
    rcases hk with hk | hk
    · exact Nat.lt_of_lt_of_le (h.lt k hk) hs
    · exact hk.2
  · refine Fr.setCell (p := ⟨b, 1, none⟩) (Fr.setCell (p := ⟨b, 0, none⟩) ?_ h.inb _) h.inb _
    exact ⟨hg.os.trans hW.os, hg.tape.trans hW.tape, hg.output.trans hW.output, hs, fun i hi hn => (hg.block i (Nat.lt_of_lt_of_le hi hW.size) (fun e => hn (h.inr i e.symm).1)).trans (hW.block i hi (fun e => e))⟩
theorem Bx.grown_cells {T : TypeId} {w W w1 : World} {S : Nat → Prop} {b : Nat} {ys : List Nat} {f : Int} {v : Value} (h : Bx T w S b ys f v) (hW : Fr (fun _ => False) w W) (hg : W.grownBy w1 v.ownBlock) :
    w1.cell? ⟨b, 0, none⟩ = some v ∧ w1.cell? ⟨b, 1, none⟩ = some (.int .i64 f) ∧ w1.frozen? ⟨b, 0, none⟩ = false ∧ w1.frozen? ⟨b, 1, none⟩ = false := by
  have hb := h.lt b h.inb
  have hne : some b ≠ v.ownBlock := fun e => (h.inr b e.symm).2 rfl
  have ho1 : w1.heap[b]? = some (.cells #[v, .int .i64 f] T (0, 0)) := by
    rw [hg.block b (Nat.lt_of_lt_of_le hb hW.size) hne, hW.block b hb (fun e => e)]; exact h.obj
  refine ⟨?_, ?_, ?_, ?_⟩
  · rw [cell_of_row w1 b _ _ T (0, 0) ho1]; rfl
  · rw [cell_of_row w1 b _ _ T (0, 0) ho1]; rfl
  · simp [World.frozen?, ho1]
  · simp [World.frozen?, ho1]
theorem row_cells {W : World} {base n sz : Nat} {e : TypeId} {v : Value} {xs : List Value} (h : W.ownsRow base e sz v n xs) : ∀ (j : Nat) (o : Obj), v.ownBlock = some j → W.heap[j]? = some o → o.isCells = true := by
  intro j o hj ho
  rcases h.2 with ⟨rfl, _⟩ | ⟨g, cap, cur, rfl, _, hg, _⟩
  · cases hj
  · cases hj; rw [hg] at ho; cases ho; rfl
theorem ko_drewN (W : World) (n : Nat) : KeepsOthers W (W.drewN n) := ⟨Nat.le_refl _, fun _ _ h _ => h⟩
theorem Kc.mono {X Y : Nat → Prop} {A B : World} (h : Kc X A B) (hs : ∀ k, X k → Y k) : Kc Y A B := ⟨h.size, fun k o hk ho hn => h.same k o hk ho (fun e => hn (hs k e))⟩
theorem Bx.setSecond {T : TypeId} {w : World} {S : Nat → Prop} {b : Nat} {ys : List Nat} {f : Int} {v : Value} (h : Bx T w S b ys f v) (f' : Int) : Bx T (w.setCell ⟨b, 1, none⟩ (.int .i64 f')) S b ys f' v := by
  refine ⟨?_, ?_, h.inb, h.inr, fun k hk => by have := h.lt k hk; simpa [World.setCell] using this⟩
  · rw [heap_set_same h.obj]; rfl
  · refine ⟨h.own.1, ?_⟩
    rcases h.own.2 with hn | ⟨g, cap, cur, hv, hb, hg, r⟩
    · exact .inl hn
    · refine .inr ⟨g, cap, cur, hv, hb, ?_, r⟩
      have := (h.inr g (by rw [hv]; rfl)).2
      rw [Below.heap_setCell _ _ _ _ this]; exact hg
theorem Bx.setRow {T : TypeId} {w : World} {S : Nat → Prop} {b : Nat} {ys : List Nat} {f : Int} {g cap n : Nat} (h : Bx T w S b ys f (.slice (some ⟨g, 0, none⟩) n cap)) (j y : Nat) : Bx T (w.setCell ⟨g, j, none⟩ (.int .u8 (y : Int))) S b (ys.set j y) f (.slice (some ⟨g, 0, none⟩) n cap) := by
  have hgb := (h.inr g rfl).2
  refine ⟨?_, ?_, h.inb, h.inr, fun k hk => by have := h.lt k hk; simpa [World.setCell] using this⟩
  · rw [Below.heap_setCell _ _ _ _ (fun e => hgb e.symm)]; exact h.obj
  · rw [u8s_set, List.length_set]
    refine ⟨by rw [List.length_set]; exact h.own.1, ?_⟩
    rcases h.own.2 with ⟨hn, _⟩ | ⟨g', cap', cur, hv, hb, hg, h2, h3, h4, h5⟩
    · cases hn
    · cases hv
      refine .inr ⟨g, cap, cur.setIfInBounds j (.int .u8 (y : Int)), rfl, hb, heap_set_same hg _, h2, h3, by simpa using h4, ?_⟩
      rw [Array.toList_setIfInBounds, List.take_set, h5]
/-- What a round of Put keeps. -/
structure PutI (w W0 : World) (S : Nat → Prop) (b Bw : Nat) (bs pre : List Bool) (W : World) : Prop where
  wr : ∃ S', WrAt W S' b (bs ++ pre) ∧ Sub W0 S S'
  box : Vr W Bw 99 (.pointer (some ⟨b, 0, none⟩))
  fr : Fr S w W
  le : W0.heap.size ≤ W.heap.size
theorem PutI.own {w W0 : World} {S : Nat → Prop} {b Bw B : Nat} {bs : List Bool} (hB : w.heap.size ≤ B) : OwnFrom B (fun pre W => PutI w W0 S b Bw bs pre W) := by
  intro pre W W' row ⟨⟨S', h1, h2⟩, h3, h4, h5⟩ hg hr
  have hk := Kc.of_grown hg (fun k e => (hr k e).2) (fun _ => False)
  exact ⟨⟨S', h1.keepC hk (fun _ _ e => e), h2⟩, h3.keepC hk (fun e => e), own_fr (β := Unit) hB () W W' row h4 hg hr, Nat.le_trans h5 hg.size⟩
theorem Fr.setNew {S : Nat → Prop} {a b : World} (h : Fr S a b) {p : Addr} (hp : S p.block ∨ a.heap.size ≤ p.block) (u : Value) : Fr S a (b.setCell p u) :=
  ⟨h.os, h.tape, h.output, by simpa [World.setCell] using h.size, fun i hi hn => (Below.heap_setCell _ _ _ _ (fun (e : i = p.block) => by rcases hp with hp | hp; exact hn (by rw [e]; exact hp); omega)).trans (h.block i hi hn)⟩
/-- A box whose last byte has room. -/
structure Room (W W0 W2 : World) (S S' S2 : Nat → Prop) (b : Nat) (ys2 : List Nat) (f' : Nat) (v2 : Value) (bs : List Bool) : Prop where
  bx : Bx 59 W2 S2 b ys2 ((f' : Int) + 1) v2
  un : unpack ys2 = bs ++ List.replicate (f' + 1) false
  few : f' < 8
  byte : ∀ y ∈ ys2, y < 256
  some : 0 < ys2.length
  much : ys2.length ≤ 95000
  sub : Sub W0 S S2
  sub2 : ∀ k, S2 k → S' k ∨ W.heap.size ≤ k
set_option maxRecDepth 100000 in
set_option maxHeartbeats 4000000 in
theorem put (S : Nat → Prop) (b : Nat) (bs : List Bool) (n : Nat) (x : Int) (w : World) (h : WrAt w S b bs) (hl : bs.length ≤ 700000) :
    Calls Try.prog 41 #[.pointer (some ⟨b, 0, none⟩), .int .u64 (n : Int), .int .i64 x] w fun e w' => e = .returned (.tuple #[]) ∧ ∃ S', WrAt w' S' b (bs ++ low n (cnt x)) ∧ Fr S w w' ∧ Sub w S S' := by
  have hc64 := cnt_le x
  have hblt : b < w.heap.size := by obtain ⟨ys, f, v, hb, _⟩ := h; exact hb.lt b hb.inb
  have hcn := counted x
  obtain ⟨c, hc⟩ : ∃ c, cnt x = c := ⟨_, rfl⟩
  rw [hc] at hc64 hcn ⊢
  have H := hid h
  clear h hc
  refine (callsIn_wide (n := 9)).1 ?_
  refine callsIn_of_wp_marks Try.func41 rfl trivial ?_ rfl
  simp only [Try.ntmps41, List.size_toArray, List.length_cons, List.length_nil, Nat.reduceAdd, Nat.reduceSub, Array.replicate_succ, Array.replicate_zero, List.push_toArray, List.append_toArray, List.nil_append, List.cons_append]
  refine wpIn_wide.2 ?_
  go_wp2_with fail
  refine (hcn _).mono ?_; rintro e w' ⟨rfl, rfl⟩
  go_wp2_with fail
  refine (lowest _ _ _).mono ?_; rintro e W0 ⟨rfl, hW0⟩
  have vw : Vr W0 w.heap.size 99 (.pointer (some ⟨b, 0, none⟩)) := by rw [hW0]; exact ((Vr.new w _ _).alloc _).alloc _
  have vn : Vr W0 (w.heap.size + 1) 88 (.int .u64 (n : Int)) := by
    rw [hW0]; have := (Vr.new (w.alloc (.cells #[.pointer (some ⟨b, 0, none⟩)] 99)) 88 (.int .u64 (n : Int))).alloc (.cells #[.int .i64 (c : Int)] 3)
    rwa [World.size_alloc] at this
  have vc : Vr W0 (w.heap.size + 2) 3 (.int .i64 (c : Int)) := by
    rw [hW0]; have := Vr.new ((w.alloc (.cells #[.pointer (some ⟨b, 0, none⟩)] 99)).alloc (.cells #[.int .u64 (n : Int)] 88)) 3 (.int .i64 (c : Int))
    rwa [World.size_alloc, World.size_alloc] at this
  have hB0 : Below w.heap.size w W0 := by rw [hW0]; exact (((Below.refl _ _).alloc (Nat.le_refl _) _).alloc (by simp) _).alloc (by simp; omega) _
  have hs0 : W0.heap.size = w.heap.size + 3 := by rw [hW0]; simp
  have e1 : (w.alloc (.cells #[.pointer (some ⟨b, 0, none⟩)] 99)).heap.size = w.heap.size + 1 := by simp
  rw [e1]
  have hstops := lowest_stops 8 (by decide) (fun k => S k ∨ w.heap.size + 3 ≤ k) (w.heap.size + 2) (w.heap.size + 1) n c hc64 W0 vc vn (by rintro (e | e); have := H.out.lt _ e; omega; omega) (by rintro (e | e); have := H.out.lt _ e; omega; omega)
  have h0 : PutI w W0 S b w.heap.size bs [] W0 := ⟨⟨S, by rw [List.append_nil]; exact H.out.below hB0, sub_self _ _⟩, vw, Fr.of_below _ hB0, Nat.le_refl _⟩
  have H0 := hid h0
  have HS0 := hid hs0
  clear hW0 vw vn vc h0 e1 hs0 hcn
  go_wp2_with fail
  refine (wpIn_wide (n := 9)).1 (wpIn_rangeFunc_ownF rfl (by decide) (gf := 75) (lb := #[.pointer (some ⟨w.heap.size + 1 + 1, 0, none⟩), .pointer (some ⟨w.heap.size + 1, 0, none⟩)]) rfl trivial (enters_of Try.func75 (by kernel_rfl) rfl) hstops Kc.trans (Kc.putObj _) (Below.refl _ _) (fun _ => rfl)
    (fun pre W => PutI w W0 S b w.heap.size bs pre W) (fun _ _ _ => False) (PutI.own hB0.size) (fun _ _ _ _ _ h _ _ => h) H0.out ?_ ?_ ?_ ?_ ?_)
  rotate_left
  · intro l y W K hK
    gi_wp2
    exact hK
  · intro l pre y W hI hlen
    obtain ⟨⟨S', ⟨ys, f, v, hb, hp⟩, hsub⟩, hbox, hfr, hle⟩ := hI
    obtain ⟨c0, c1, hlt⟩ := hb.cells
    have cw := hbox.cell
    have hnS : ¬ S' w.heap.size := fun e => by
      rcases hsub _ e with e | e
      · have := H.out.lt _ e; omega
      · have := HS0.out; omega
    have hyl : ys.length ≤ 90000 := by have h1 := hp.len; have h2 := hp.few; rw [List.length_append] at h1; omega
    have hbw : b ≠ w.heap.size := by omega
    by_cases hf0 : f = 0
    · subst hf0
      have c1 : W.cell? ⟨b, 1, none⟩ = some (.int .i64 0) := c1
      have HB := hid hb
      have HP := hid hp
      have HX := hid hbox
      have HF := hid hfr
      obtain ⟨p, cap, rfl, hcap, hcm⟩ := hb.form
      obtain ⟨i0, hi, hz0, hz1, hz2⟩ := info_parts info_u8
      unfold maxLen at hcm
      clear hb hp hbox hfr hstops
      have hfW : Fr (fun _ => False) W (W.alloc (.cells #[.int .u8 0] 5)).drew := ((Fr.refl _ W).alloc _).drew
      have HFW := hid hfW
      have HOW := hid (show (W.alloc (.cells #[.int .u8 0] 5)).drew.ownsRow 0 5 1 (.slice p ys.length cap) ys.length (u8s ys) from (HB.out.keep HFW.out (fun _ _ e => e)).own)
      have HNW := hid (show (W.alloc (.cells #[.int .u8 0] 5)).drew.heap[W.heap.size]? = some (.cells #[.int .u8 0] 5 (0, 0)) from heap_alloc_new W _)
      clear hfW
      gi_wp2
      refine round_held (fun w' => w'.cell? ⟨w.heap.size, 0, none⟩ = some (.pointer (some ⟨b, 0, none⟩))) 14 rfl (by kernel_rfl) (by kernel_rfl) cw ?_
      intro hHeld
      refine takeO 0 (some 17) (v := ?v1) rfl rfl (by kernel_rfl) (by kernel_rfl) (by kernel_rfl) (Or.inl ⟨by rfl, ?y1⟩) hHeld ?r1
      case y1 => (intro w' hSw; (try dsimp only at hSw); go_simp; try with_reducible rfl)
      try simp only [Act.put, List.setIfInBounds_toArray, List.set_cons_zero, List.set_cons_succ]
      refine takeO 1 (some 18) (v := ?v2) rfl rfl (by kernel_rfl) (by kernel_rfl) (by kernel_rfl) (Or.inl ⟨by rfl, ?y2⟩) hHeld ?r2
      case y2 => (intro w' hSw; (try dsimp only at hSw); go_simp; try with_reducible rfl)
      try simp only [Act.put, List.setIfInBounds_toArray, List.set_cons_zero, List.set_cons_succ]
      refine takeO 2 (some 19) (v := ?v3) rfl rfl (by kernel_rfl) (by kernel_rfl) (by kernel_rfl) (Or.inl ⟨by rfl, ?y3⟩) hHeld ?r3
      case y3 => (intro w' hSw; (try dsimp only at hSw); go_simp; try with_reducible rfl)
      try simp only [Act.put, List.setIfInBounds_toArray, List.set_cons_zero, List.set_cons_succ]
      refine takeO 3 (some 20) (v := ?v4) rfl rfl (by kernel_rfl) (by kernel_rfl) (by kernel_rfl) (Or.inl ⟨by rfl, ?y4⟩) hHeld ?r4
      case y4 => (intro w' hSw; (try dsimp only at hSw); go_simp; try with_reducible rfl)
      try simp only [Act.put, List.setIfInBounds_toArray, List.set_cons_zero, List.set_cons_succ]
      refine takeO 4 (some 21) (v := ?v5) rfl rfl (by kernel_rfl) (by kernel_rfl) (by kernel_rfl) (Or.inl ⟨by rfl, ?y5⟩) hHeld ?r5
      case y5 => (intro w' hSw; (try dsimp only at hSw); go_simp; try with_reducible rfl)
      try simp only [Act.put, List.setIfInBounds_toArray, List.set_cons_zero, List.set_cons_succ]
      refine wpAnyH_ready (rs := [5, 6]) (by kernel_rfl) (by simp) ?_
      refine AllReadyH.cons rfl (fun K hK => ?_) (AllReadyH.cons rfl (fun K hK => ?_) AllReadyH.nil)
      · go_simp
        refine hK.out _ _ hHeld (fun hHeld => ?_)
        clear hK K
        refine wpAnyH_ready (rs := [6]) (by kernel_rfl) (by simp) ?_
        refine AllReadyH.cons rfl (fun K hK => ?_) AllReadyH.nil
        go_simp
        refine hK.out _ _ (HX.out.alloc _).cell (fun hHeld => ?_)
        clear hK K
        refine wpAnyH_ready (rs := [7]) (by kernel_rfl) (by simp) ?_
        refine AllReadyH.cons rfl (fun K hK => ?_) AllReadyH.nil
        refine step_append_lies _ rfl _ _ 25 rfl 0 5 i0 (.int .u8 0) 1 1 Try.underlying25 hi hz0 hz1 hz2 rfl (by decide) _ ys.length (u8s ys) rfl HOW.out ⟨W.heap.size, 0, none⟩ 1 1 [.int .u8 0] rfl rfl (World.news_of_block HNW.out) (by intro u hu; rw [List.mem_singleton] at hu; subst hu; rfl) (by decide) (by unfold maxLen; omega) (by omega) (Nat.zero_le _) (W.heap.size + 1) (by simp) ?_
        intro g cap' w1 hown hgrow hat hglt
        change K (Act.put _ (some 24) _) _
        simp only [Act.put, List.setIfInBounds_toArray, List.set_cons_zero, List.set_cons_succ]
        have hg2 := HB.out.grown (ys' := ys ++ [0]) HFW.out hgrow (by rw [u8s_append, List.length_append]; exact hown) (own_new hat (Nat.le_succ _)) 8
        have hfr1 : Fr S' W w1 := ⟨hgrow.os.trans HFW.out.os, hgrow.tape.trans HFW.out.tape, hgrow.output.trans HFW.out.output, Nat.le_trans HFW.out.size hgrow.size, fun i hi hn => (hgrow.block i (Nat.lt_of_lt_of_le hi HFW.out.size) (fun e => hn (HB.out.inr i e.symm).1)).trans (HFW.out.block i hi (fun e => e))⟩
        have hX1 := HX.out.fr hfr1 hnS
        have HG2 := hid hg2
        have HX1 := hid hX1
        clear hg2 hfr1 hX1 hown hat
        refine hK.out _ _ HX1.out.cell (fun hHeld => ?_)
        clear hK K
        obtain ⟨k0, k1, k2, k3⟩ := HB.out.grown_cells HFW.out hgrow
        have hko : KeepsOthers W w1 := (ko_drewN _ 1).trans (KeepsOthers.of_grownBy hgrow (row_cells HOW.out)) |> (KeepsOthers.alloc W (.cells #[.int .u8 0] 5)).trans
        clear hgrow
        refine takeO 8 (some 25) (v := ?v6) rfl rfl (by kernel_rfl) (by kernel_rfl) (by kernel_rfl) (Or.inl ⟨by rfl, ?y6⟩) hHeld ?r6
        case y6 => (intro w' hSw; (try dsimp only at hSw); go_simp; try with_reducible rfl)
        try simp only [Act.put, List.setIfInBounds_toArray, List.set_cons_zero, List.set_cons_succ]
        refine takeO 9 (some 26) (v := ?v7) rfl rfl (by kernel_rfl) (by kernel_rfl) (by kernel_rfl) (Or.inl ⟨by rfl, ?y7⟩) hHeld ?r7
        case y7 => (intro w' hSw; (try dsimp only at hSw); go_simp; try with_reducible rfl)
        try simp only [Act.put, List.setIfInBounds_toArray, List.set_cons_zero, List.set_cons_succ]
        refine wpAnyH_ready (rs := [10]) (by kernel_rfl) (by simp) ?_
        refine AllReadyH.cons rfl (fun K hK => ?_) AllReadyH.nil
        go_simp
        refine hK.out _ _ (HX1.out.other hbw.symm _).cell (fun hHeld => ?_)
        clear hK K
        have k4 : (w1.setCell ⟨b, 0, none⟩ (.slice (some ⟨g, 0, none⟩) (ys.length + 1) cap')).cell? ⟨b, 1, none⟩ = some (.int .i64 0) := (World.cell?_setCell_other _ _ _ _ (by simp)).trans k1
        refine takeO 11 (some 27) (v := ?v8) rfl rfl (by kernel_rfl) (by kernel_rfl) (by kernel_rfl) (Or.inl ⟨by rfl, ?y8⟩) hHeld ?r8
        case y8 => (intro w' hSw; (try dsimp only at hSw); go_simp; try with_reducible rfl)
        try simp only [Act.put, List.setIfInBounds_toArray, List.set_cons_zero, List.set_cons_succ]
        refine takeO 12 (some 28) (v := ?v9) rfl rfl (by kernel_rfl) (by kernel_rfl) (by kernel_rfl) (Or.inl ⟨by rfl, ?y9⟩) hHeld ?r9
        case y9 => (intro w' hSw; (try dsimp only at hSw); go_simp; try with_reducible rfl)
        try simp only [Act.put, List.setIfInBounds_toArray, List.set_cons_zero, List.set_cons_succ]
        refine wpAnyH_ready (rs := [13]) (by kernel_rfl) (by simp) ?_
        refine AllReadyH.cons rfl (fun K hK => ?_) AllReadyH.nil
        go_simp
        refine hK.out _ _ ((HX1.out.other hbw.symm _).other hbw.symm _).cell (fun hHeld => ?_)
        clear hK K
        refine wpAnyH_done (by kernel_rfl) (Only.on ?_) _
        obtain ⟨HB2, HF2⟩ := HG2.out
        have hko2 := (hko.trans (KeepsOthers.setCell w1 ⟨b, 0, none⟩ (.slice (some ⟨g, 0, none⟩) (ys.length + 1) cap'))).trans (KeepsOthers.setCell _ ⟨b, 1, none⟩ (.int .i64 8))
        have HX2 := (HX1.out.other hbw.symm (o := 0) (.slice (some ⟨g, 0, none⟩) (ys.length + 1) cap')).other hbw.symm (o := 1) (.int .i64 8)
        generalize (w1.setCell ⟨b, 0, none⟩ (.slice (some ⟨g, 0, none⟩) (ys.length + 1) cap')).setCell ⟨b, 1, none⟩ (.int .i64 8) = W2 at *
        have key : ∃ (ys2 : List Nat) (f' : Nat) (S2 : Nat → Prop) (v2 : Value), Room W W0 W2 S S' S2 b ys2 f' v2 (bs ++ pre) :=
          ⟨ys ++ [0], 7, _, _, HB2, HP.out.fresh.1, by omega, HP.out.fresh.2, by simp, by simp; omega, fun k hk => hk.elim (fun e => hsub k e) (fun e => .inr (by omega)), fun k hk => hk.imp id (fun e => e.1)⟩
        have HSb := HB.out.inb
        clear HB HG2 HX1 HX HOW HNW HFW HB2 HP k0 k1 k2 k3 k4 c0 c1 cw hHeld hko hcap hcm
        have hF2 := hid HF2
        have hX2 := hid HX2
        have hKO := hid hko2
        obtain ⟨ys2, f', S2, v2, hR⟩ := key
        obtain ⟨g2, cap2, rfl, hca, hcb, hgb, hSg, hgl, hcs, hfs⟩ := hR.bx.at (j := ys2.length - 1) (by have := hR.some; omega)
        obtain ⟨d0, d1, hlt2⟩ := hR.bx.cells
        have dz := hR.bx.thaw 1
        have dw := HX2.cell
        have hf8 := hR.few
        have HR := hid hR
        unfold maxLen at hcb
        clear hcs hfs hR HX2 HF2 hko2
        gi_wp2
        have h3 := HR.out.bx.setSecond (f' : Int)
        have hX3 := hX2.out.other hbw.symm (o := 1) (.int .i64 (f' : Int))
        have hF3 := hF2.out.setCell (p := ⟨b, 1, none⟩) HSb (.int .i64 (f' : Int))
        have hK3 := hKO.out.trans (KeepsOthers.setCell W2 ⟨b, 1, none⟩ (.int .i64 (f' : Int)))
        have hs3 : W2.heap.size = (W2.setCell ⟨b, 1, none⟩ (.int .i64 (f' : Int))).heap.size := by simp [World.setCell]
        generalize W2.setCell ⟨b, 1, none⟩ (.int .i64 (f' : Int)) = W3 at *
        clear d0 d1 dw dz hX2 hF2 hKO
        obtain ⟨q, hq⟩ : ∃ q, ys2.length = q + 1 := ⟨ys2.length - 1, by have := HR.out.some; omega⟩
        obtain ⟨g3, cap3, hv3, _, _, _, _, _, hcs, hfs⟩ := h3.at (j := q) (by omega)
        cases hv3
        have d3 := hcs q (by omega)
        have z3 := hfs q (by omega)
        obtain ⟨d0, d1, _⟩ := h3.cells
        have dw := hX3.cell
        have hy2 : ys2.getD q 0 < 256 := by rw [List.getD_eq_getElem?_getD, List.getElem?_eq_getElem (by omega)]; exact HR.out.byte _ (List.getElem_mem _)
        rw [hq] at d0 hca
        have hor := put_bit' (y := ys2.getD q 0) (b := y) hy2 hf8
        have hpk := packs_set (b := y) HR.out.un hf8 HR.out.byte HR.out.some
        have e4 : ys2.length - 1 = q := by omega
        rw [e4] at hpk
        obtain ⟨y2, hy2e⟩ : ∃ y2, ys2.getD q 0 = y2 := ⟨_, rfl⟩
        rw [hy2e] at d3 hor hpk
        have hne : g2 ≠ w.heap.size := fun e => by
          rw [e] at hSg
          rcases HR.out.sub _ hSg with e | e
          · have := H.out.lt _ e; omega
          · have := HS0.out; omega
        have H3 := hid h3
        have HX3 := hid hX3
        have HPK := hid hpk
        have HQ := hid hq
        have hq3 : (q : Int) < (q : Int) + 1 := by omega
        have hwq : IntKind.i64.wrap (q : Int) = (q : Int) := wrap_i64 (by omega) (by have := HR.out.much; omega)
        clear hcs hfs hq h3 hX3 hpk hy2e e4 hy2
        refine round_held (fun w' => w'.cell? ⟨w.heap.size, 0, none⟩ = some (.pointer (some ⟨b, 0, none⟩)) ∧ w'.cell? ⟨b, 0, none⟩ = some (.slice (some ⟨g2, 0, none⟩) (q + 1) cap2) ∧ w'.cell? ⟨b, 1, none⟩ = some (.int .i64 (f' : Int))) 21 rfl (by kernel_rfl) (by kernel_rfl) ⟨dw, d0, d1⟩ ?_
        intro hHeld
        refine takeO 0 (some 36) (v := ?v10) rfl rfl (by kernel_rfl) (by kernel_rfl) (by kernel_rfl) (Or.inl ⟨by rfl, ?y10⟩) hHeld ?r10
        case y10 => (intro w' hSw; (try dsimp only at hSw); go_simp; try with_reducible rfl)
        try simp only [Act.put, List.setIfInBounds_toArray, List.set_cons_zero, List.set_cons_succ]
        refine takeO 1 (some 37) (v := ?v11) rfl rfl (by kernel_rfl) (by kernel_rfl) (by kernel_rfl) (Or.inl ⟨by rfl, ?y11⟩) hHeld ?r11
        case y11 => (intro w' hSw; (try dsimp only at hSw); go_simp; try with_reducible rfl)
        try simp only [Act.put, List.setIfInBounds_toArray, List.set_cons_zero, List.set_cons_succ]
        refine takeO 2 (some 38) (v := ?v12) rfl rfl (by kernel_rfl) (by kernel_rfl) (by kernel_rfl) (Or.inl ⟨by rfl, ?y12⟩) hHeld ?r12
        case y12 => (intro w' hSw; (try dsimp only at hSw); go_simp; try with_reducible rfl)
        try simp only [Act.put, List.setIfInBounds_toArray, List.set_cons_zero, List.set_cons_succ]
        refine takeO 3 (some 39) (v := ?v13) rfl rfl (by kernel_rfl) (by kernel_rfl) (by kernel_rfl) (Or.inl ⟨by rfl, ?y13⟩) hHeld ?r13
        case y13 => (intro w' hSw; (try dsimp only at hSw); go_simp; try with_reducible rfl)
        try simp only [Act.put, List.setIfInBounds_toArray, List.set_cons_zero, List.set_cons_succ]
        refine takeO 4 (some 40) (v := ?v14) rfl rfl (by kernel_rfl) (by kernel_rfl) (by kernel_rfl) (Or.inl ⟨by rfl, ?y14⟩) hHeld ?r14
        case y14 => (intro w' hSw; (try dsimp only at hSw); go_simp; try with_reducible rfl)
        try simp only [Act.put, List.setIfInBounds_toArray, List.set_cons_zero, List.set_cons_succ]
        refine takeO 5 (some 41) (v := ?v15) rfl rfl (by kernel_rfl) (by kernel_rfl) (by kernel_rfl) (Or.inl ⟨by rfl, ?y15⟩) hHeld ?r15
        case y15 => (intro w' hSw; (try dsimp only at hSw); go_simp; try with_reducible rfl)
        try simp only [Act.put, List.setIfInBounds_toArray, List.set_cons_zero, List.set_cons_succ]
        refine takeO 6 (some 42) (v := ?v16) rfl rfl (by kernel_rfl) (by kernel_rfl) (by kernel_rfl) (Or.inl ⟨by rfl, ?y16⟩) hHeld ?r16
        case y16 => (intro w' hSw; (try dsimp only at hSw); go_simp; try with_reducible rfl)
        try simp only [Act.put, List.setIfInBounds_toArray, List.set_cons_zero, List.set_cons_succ]
        refine takeO 7 (some 43) (v := ?v17) rfl rfl (by kernel_rfl) (by kernel_rfl) (by kernel_rfl) (Or.inl ⟨by rfl, ?y17⟩) hHeld ?r17
        case y17 => (intro w' hSw; (try dsimp only at hSw); go_simp; try with_reducible rfl)
        try simp only [Act.put, List.setIfInBounds_toArray, List.set_cons_zero, List.set_cons_succ]
        refine takeO 8 (some 44) (v := ?v18) rfl rfl (by kernel_rfl) (by kernel_rfl) (by kernel_rfl) (Or.inl ⟨by rfl, ?y18⟩) hHeld ?r18
        case y18 => (intro w' hSw; (try dsimp only at hSw); go_simp; try with_reducible rfl)
        try simp only [Act.put, List.setIfInBounds_toArray, List.set_cons_zero, List.set_cons_succ]
        refine takeO 9 (some 45) (v := ?v19) rfl rfl (by kernel_rfl) (by kernel_rfl) (by kernel_rfl) (Or.inl ⟨by rfl, ?y19⟩) hHeld ?r19
        case y19 => (intro w' hSw; (try dsimp only at hSw); go_simp; try with_reducible rfl)
        try simp only [Act.put, List.setIfInBounds_toArray, List.set_cons_zero, List.set_cons_succ]
        refine takeO 10 (some 46) (v := ?v20) rfl rfl (by kernel_rfl) (by kernel_rfl) (by kernel_rfl) (Or.inl ⟨by rfl, ?y20⟩) hHeld ?r20
        case y20 => (intro w' hSw; (try dsimp only at hSw); go_simp; try with_reducible rfl)
        try simp only [Act.put, List.setIfInBounds_toArray, List.set_cons_zero, List.set_cons_succ]
        refine takeO 12 (some 48) (v := ?v21) rfl rfl (by kernel_rfl) (by kernel_rfl) (by kernel_rfl) (Or.inl ⟨by rfl, ?y21⟩) hHeld ?r21
        case y21 => (intro w' hSw; (try dsimp only at hSw); go_simp; try with_reducible rfl)
        try simp only [Act.put, List.setIfInBounds_toArray, List.set_cons_zero, List.set_cons_succ]
        refine takeO 13 (some 49) (v := ?v22) rfl rfl (by kernel_rfl) (by kernel_rfl) (by kernel_rfl) (Or.inl ⟨by rfl, ?y22⟩) hHeld ?r22
        case y22 => (intro w' hSw; (try dsimp only at hSw); go_simp; try with_reducible rfl)
        try simp only [Act.put, List.setIfInBounds_toArray, List.set_cons_zero, List.set_cons_succ]
        refine takeO 14 (some 50) (v := ?v23) rfl rfl (by kernel_rfl) (by kernel_rfl) (by kernel_rfl) (Or.inl ⟨by rfl, ?y23⟩) hHeld ?r23
        case y23 => (intro w' hSw; (try dsimp only at hSw); go_simp; try with_reducible rfl)
        try simp only [Act.put, List.setIfInBounds_toArray, List.set_cons_zero, List.set_cons_succ]
        refine takeO 15 (some 51) (v := ?v24) rfl rfl (by kernel_rfl) (by kernel_rfl) (by kernel_rfl) (Or.inl ⟨by rfl, ?y24⟩) hHeld ?r24
        case y24 => (intro w' hSw; (try dsimp only at hSw); go_simp; try with_reducible rfl)
        try simp only [Act.put, List.setIfInBounds_toArray, List.set_cons_zero, List.set_cons_succ]
        refine takeO 16 (some 52) (v := ?v25) rfl rfl (by kernel_rfl) (by kernel_rfl) (by kernel_rfl) (Or.inl ⟨by rfl, ?y25⟩) hHeld ?r25
        case y25 => (intro w' hSw; (try dsimp only at hSw); go_simp; try with_reducible rfl)
        try simp only [Act.put, List.setIfInBounds_toArray, List.set_cons_zero, List.set_cons_succ]
        refine takeO 17 (some 53) (v := ?v26) rfl rfl (by kernel_rfl) (by kernel_rfl) (by kernel_rfl) (Or.inl ⟨by rfl, ?y26⟩) hHeld ?r26
        case y26 => (intro w' hSw; (try dsimp only at hSw); go_simp; try with_reducible rfl)
        try simp only [Act.put, List.setIfInBounds_toArray, List.set_cons_zero, List.set_cons_succ]
        refine wpAnyH_ready (rs := [11]) (by kernel_rfl) (by simp) ?_
        refine AllReadyH.cons rfl (fun K hK => ?_) AllReadyH.nil
        go_simp
        refine hK.out _ _ hHeld (fun hHeld => ?_)
        clear hK K
        refine takeO 18 (some 54) (v := ?v27) rfl rfl (by kernel_rfl) (by kernel_rfl) (by kernel_rfl) (Or.inl ⟨by rfl, ?y27⟩) hHeld ?r27
        case y27 => (intro w' hSw; (try dsimp only at hSw); go_simp; try with_reducible rfl)
        try simp only [Act.put, List.setIfInBounds_toArray, List.set_cons_zero, List.set_cons_succ]
        refine takeO 19 (some 55) (v := ?v28) rfl rfl (by kernel_rfl) (by kernel_rfl) (by kernel_rfl) (Or.inl ⟨by rfl, ?y28⟩) hHeld ?r28
        case y28 => (intro w' hSw; (try dsimp only at hSw); go_simp; try with_reducible rfl)
        try simp only [Act.put, List.setIfInBounds_toArray, List.set_cons_zero, List.set_cons_succ]
        refine wpAnyH_ready (rs := [20]) (by kernel_rfl) (by simp) ?_
        refine AllReadyH.cons rfl (fun K hK => ?_) AllReadyH.nil
        go_simp
        refine hK.out _ _ ⟨(World.cell?_setCell_far _ _ _ _ hne).trans dw, (World.cell?_setCell_far _ _ _ _ hgb).trans d0, (World.cell?_setCell_far _ _ _ _ hgb).trans d1⟩ (fun hHeld => ?_)
        clear hK K
        refine wpAnyH_done (by kernel_rfl) (Only.on ?_) _
        have hF4 : Fr S' W (W3.setCell ⟨g2, q, none⟩ (.int .u8 ((setBit y2 f' y : Nat) : Int))).drew := (hF3.setNew (p := ⟨g2, q, none⟩) (HR.out.sub2 _ hSg) _).drew
        have hK4 : KeepsOthers W (W3.setCell ⟨g2, q, none⟩ (.int .u8 ((setBit y2 f' y : Nat) : Int))).drew := (hK3.trans (KeepsOthers.setCell _ _ _)).trans (ko_drewN _ 1)
        have hI4 : PutI w W0 S b w.heap.size bs (pre ++ [y]) (W3.setCell ⟨g2, q, none⟩ (.int .u8 ((setBit y2 f' y : Nat) : Int))).drew := by
          refine ⟨⟨S2, ⟨ys2.set q (setBit y2 f' y), f', .slice (some ⟨g2, 0, none⟩) ys2.length cap2, ?_, by rw [← List.append_assoc]; exact HPK.out⟩, HR.out.sub⟩, ⟨(HX3.out.other hne.symm (o := q) (.int .u8 ((setBit y2 f' y : Nat) : Int))).obj⟩, HF.out.trans hF4 (fun k hk e => (hsub k e).elim id (fun e => by have := HS0.out; omega)), Nat.le_trans hle hF4.size⟩
          exact (H3.out.setRow q (setBit y2 f' y)).keep (S' := fun _ => False) ((Fr.refl _ _).drew) (fun _ _ e => e)
        have hC4 : Kc (fun k => S k ∨ w.heap.size + 3 ≤ k) W (W3.setCell ⟨g2, q, none⟩ (.int .u8 ((setBit y2 f' y : Nat) : Int))).drew := (Kc.of_fr hF4).mono (fun k hk => (hsub k hk).imp id (fun e => by have := HS0.out; omega))
        gi_wp2
        exact ⟨hK4, hC4, hI4⟩
      · go_simp
        refine hK.out _ _ (HX.out.alloc _).cell (fun hHeld => ?_)
        clear hK K
        refine wpAnyH_ready (rs := [5]) (by kernel_rfl) (by simp) ?_
        refine AllReadyH.cons rfl (fun K hK => ?_) AllReadyH.nil
        go_simp
        refine hK.out _ _ (HX.out.alloc _).cell (fun hHeld => ?_)
        clear hK K
        refine wpAnyH_ready (rs := [7]) (by kernel_rfl) (by simp) ?_
        refine AllReadyH.cons rfl (fun K hK => ?_) AllReadyH.nil
        refine step_append_lies _ rfl _ _ 25 rfl 0 5 i0 (.int .u8 0) 1 1 Try.underlying25 hi hz0 hz1 hz2 rfl (by decide) _ ys.length (u8s ys) rfl HOW.out ⟨W.heap.size, 0, none⟩ 1 1 [.int .u8 0] rfl rfl (World.news_of_block HNW.out) (by intro u hu; rw [List.mem_singleton] at hu; subst hu; rfl) (by decide) (by unfold maxLen; omega) (by omega) (Nat.zero_le _) (W.heap.size + 1) (by simp) ?_
        intro g cap' w1 hown hgrow hat hglt
        change K (Act.put _ (some 24) _) _
        simp only [Act.put, List.setIfInBounds_toArray, List.set_cons_zero, List.set_cons_succ]
        have hg2 := HB.out.grown (ys' := ys ++ [0]) HFW.out hgrow (by rw [u8s_append, List.length_append]; exact hown) (own_new hat (Nat.le_succ _)) 8
        have hfr1 : Fr S' W w1 := ⟨hgrow.os.trans HFW.out.os, hgrow.tape.trans HFW.out.tape, hgrow.output.trans HFW.out.output, Nat.le_trans HFW.out.size hgrow.size, fun i hi hn => (hgrow.block i (Nat.lt_of_lt_of_le hi HFW.out.size) (fun e => hn (HB.out.inr i e.symm).1)).trans (HFW.out.block i hi (fun e => e))⟩
        have hX1 := HX.out.fr hfr1 hnS
        have HG2 := hid hg2
        have HX1 := hid hX1
        clear hg2 hfr1 hX1 hown hat
        refine hK.out _ _ HX1.out.cell (fun hHeld => ?_)
        clear hK K
        obtain ⟨k0, k1, k2, k3⟩ := HB.out.grown_cells HFW.out hgrow
        have hko : KeepsOthers W w1 := (ko_drewN _ 1).trans (KeepsOthers.of_grownBy hgrow (row_cells HOW.out)) |> (KeepsOthers.alloc W (.cells #[.int .u8 0] 5)).trans
        clear hgrow
        refine takeO 8 (some 25) (v := ?v29) rfl rfl (by kernel_rfl) (by kernel_rfl) (by kernel_rfl) (Or.inl ⟨by rfl, ?y29⟩) hHeld ?r29
        case y29 => (intro w' hSw; (try dsimp only at hSw); go_simp; try with_reducible rfl)
        try simp only [Act.put, List.setIfInBounds_toArray, List.set_cons_zero, List.set_cons_succ]
        refine takeO 9 (some 26) (v := ?v30) rfl rfl (by kernel_rfl) (by kernel_rfl) (by kernel_rfl) (Or.inl ⟨by rfl, ?y30⟩) hHeld ?r30
        case y30 => (intro w' hSw; (try dsimp only at hSw); go_simp; try with_reducible rfl)
        try simp only [Act.put, List.setIfInBounds_toArray, List.set_cons_zero, List.set_cons_succ]
        refine wpAnyH_ready (rs := [10]) (by kernel_rfl) (by simp) ?_
        refine AllReadyH.cons rfl (fun K hK => ?_) AllReadyH.nil
        go_simp
        refine hK.out _ _ (HX1.out.other hbw.symm _).cell (fun hHeld => ?_)
        clear hK K
        have k4 : (w1.setCell ⟨b, 0, none⟩ (.slice (some ⟨g, 0, none⟩) (ys.length + 1) cap')).cell? ⟨b, 1, none⟩ = some (.int .i64 0) := (World.cell?_setCell_other _ _ _ _ (by simp)).trans k1
        refine takeO 11 (some 27) (v := ?v31) rfl rfl (by kernel_rfl) (by kernel_rfl) (by kernel_rfl) (Or.inl ⟨by rfl, ?y31⟩) hHeld ?r31
        case y31 => (intro w' hSw; (try dsimp only at hSw); go_simp; try with_reducible rfl)
        try simp only [Act.put, List.setIfInBounds_toArray, List.set_cons_zero, List.set_cons_succ]
        refine takeO 12 (some 28) (v := ?v32) rfl rfl (by kernel_rfl) (by kernel_rfl) (by kernel_rfl) (Or.inl ⟨by rfl, ?y32⟩) hHeld ?r32
        case y32 => (intro w' hSw; (try dsimp only at hSw); go_simp; try with_reducible rfl)
        try simp only [Act.put, List.setIfInBounds_toArray, List.set_cons_zero, List.set_cons_succ]
        refine wpAnyH_ready (rs := [13]) (by kernel_rfl) (by simp) ?_
        refine AllReadyH.cons rfl (fun K hK => ?_) AllReadyH.nil
        go_simp
        refine hK.out _ _ ((HX1.out.other hbw.symm _).other hbw.symm _).cell (fun hHeld => ?_)
        clear hK K
        refine wpAnyH_done (by kernel_rfl) (Only.on ?_) _
        obtain ⟨HB2, HF2⟩ := HG2.out
        have hko2 := (hko.trans (KeepsOthers.setCell w1 ⟨b, 0, none⟩ (.slice (some ⟨g, 0, none⟩) (ys.length + 1) cap'))).trans (KeepsOthers.setCell _ ⟨b, 1, none⟩ (.int .i64 8))
        have HX2 := (HX1.out.other hbw.symm (o := 0) (.slice (some ⟨g, 0, none⟩) (ys.length + 1) cap')).other hbw.symm (o := 1) (.int .i64 8)
        generalize (w1.setCell ⟨b, 0, none⟩ (.slice (some ⟨g, 0, none⟩) (ys.length + 1) cap')).setCell ⟨b, 1, none⟩ (.int .i64 8) = W2 at *
        have key : ∃ (ys2 : List Nat) (f' : Nat) (S2 : Nat → Prop) (v2 : Value), Room W W0 W2 S S' S2 b ys2 f' v2 (bs ++ pre) :=
          ⟨ys ++ [0], 7, _, _, HB2, HP.out.fresh.1, by omega, HP.out.fresh.2, by simp, by simp; omega, fun k hk => hk.elim (fun e => hsub k e) (fun e => .inr (by omega)), fun k hk => hk.imp id (fun e => e.1)⟩
        have HSb := HB.out.inb
        clear HB HG2 HX1 HX HOW HNW HFW HB2 HP k0 k1 k2 k3 k4 c0 c1 cw hHeld hko hcap hcm
        have hF2 := hid HF2
        have hX2 := hid HX2
        have hKO := hid hko2
        obtain ⟨ys2, f', S2, v2, hR⟩ := key
        obtain ⟨g2, cap2, rfl, hca, hcb, hgb, hSg, hgl, hcs, hfs⟩ := hR.bx.at (j := ys2.length - 1) (by have := hR.some; omega)
        obtain ⟨d0, d1, hlt2⟩ := hR.bx.cells
        have dz := hR.bx.thaw 1
        have dw := HX2.cell
        have hf8 := hR.few
        have HR := hid hR
        unfold maxLen at hcb
        clear hcs hfs hR HX2 HF2 hko2
        gi_wp2
        have h3 := HR.out.bx.setSecond (f' : Int)
        have hX3 := hX2.out.other hbw.symm (o := 1) (.int .i64 (f' : Int))
        have hF3 := hF2.out.setCell (p := ⟨b, 1, none⟩) HSb (.int .i64 (f' : Int))
        have hK3 := hKO.out.trans (KeepsOthers.setCell W2 ⟨b, 1, none⟩ (.int .i64 (f' : Int)))
        have hs3 : W2.heap.size = (W2.setCell ⟨b, 1, none⟩ (.int .i64 (f' : Int))).heap.size := by simp [World.setCell]
        generalize W2.setCell ⟨b, 1, none⟩ (.int .i64 (f' : Int)) = W3 at *
        clear d0 d1 dw dz hX2 hF2 hKO
        obtain ⟨q, hq⟩ : ∃ q, ys2.length = q + 1 := ⟨ys2.length - 1, by have := HR.out.some; omega⟩
        obtain ⟨g3, cap3, hv3, _, _, _, _, _, hcs, hfs⟩ := h3.at (j := q) (by omega)
        cases hv3
        have d3 := hcs q (by omega)
        have z3 := hfs q (by omega)
        obtain ⟨d0, d1, _⟩ := h3.cells
        have dw := hX3.cell
        have hy2 : ys2.getD q 0 < 256 := by rw [List.getD_eq_getElem?_getD, List.getElem?_eq_getElem (by omega)]; exact HR.out.byte _ (List.getElem_mem _)
        rw [hq] at d0 hca
        have hor := put_bit' (y := ys2.getD q 0) (b := y) hy2 hf8
        have hpk := packs_set (b := y) HR.out.un hf8 HR.out.byte HR.out.some
        have e4 : ys2.length - 1 = q := by omega
        rw [e4] at hpk
        obtain ⟨y2, hy2e⟩ : ∃ y2, ys2.getD q 0 = y2 := ⟨_, rfl⟩
        rw [hy2e] at d3 hor hpk
        have hne : g2 ≠ w.heap.size := fun e => by
          rw [e] at hSg
          rcases HR.out.sub _ hSg with e | e
          · have := H.out.lt _ e; omega
          · have := HS0.out; omega
        have H3 := hid h3
        have HX3 := hid hX3
        have HPK := hid hpk
        have HQ := hid hq
        have hq3 : (q : Int) < (q : Int) + 1 := by omega
        have hwq : IntKind.i64.wrap (q : Int) = (q : Int) := wrap_i64 (by omega) (by have := HR.out.much; omega)
        clear hcs hfs hq h3 hX3 hpk hy2e e4 hy2
        refine round_held (fun w' => w'.cell? ⟨w.heap.size, 0, none⟩ = some (.pointer (some ⟨b, 0, none⟩)) ∧ w'.cell? ⟨b, 0, none⟩ = some (.slice (some ⟨g2, 0, none⟩) (q + 1) cap2) ∧ w'.cell? ⟨b, 1, none⟩ = some (.int .i64 (f' : Int))) 21 rfl (by kernel_rfl) (by kernel_rfl) ⟨dw, d0, d1⟩ ?_
        intro hHeld
        refine takeO 0 (some 36) (v := ?v33) rfl rfl (by kernel_rfl) (by kernel_rfl) (by kernel_rfl) (Or.inl ⟨by rfl, ?y33⟩) hHeld ?r33
        case y33 => (intro w' hSw; (try dsimp only at hSw); go_simp; try with_reducible rfl)
        try simp only [Act.put, List.setIfInBounds_toArray, List.set_cons_zero, List.set_cons_succ]
        refine takeO 1 (some 37) (v := ?v34) rfl rfl (by kernel_rfl) (by kernel_rfl) (by kernel_rfl) (Or.inl ⟨by rfl, ?y34⟩) hHeld ?r34
        case y34 => (intro w' hSw; (try dsimp only at hSw); go_simp; try with_reducible rfl)
        try simp only [Act.put, List.setIfInBounds_toArray, List.set_cons_zero, List.set_cons_succ]
        refine takeO 2 (some 38) (v := ?v35) rfl rfl (by kernel_rfl) (by kernel_rfl) (by kernel_rfl) (Or.inl ⟨by rfl, ?y35⟩) hHeld ?r35
        case y35 => (intro w' hSw; (try dsimp only at hSw); go_simp; try with_reducible rfl)
        try simp only [Act.put, List.setIfInBounds_toArray, List.set_cons_zero, List.set_cons_succ]
        refine takeO 3 (some 39) (v := ?v36) rfl rfl (by kernel_rfl) (by kernel_rfl) (by kernel_rfl) (Or.inl ⟨by rfl, ?y36⟩) hHeld ?r36
        case y36 => (intro w' hSw; (try dsimp only at hSw); go_simp; try with_reducible rfl)
        try simp only [Act.put, List.setIfInBounds_toArray, List.set_cons_zero, List.set_cons_succ]
        refine takeO 4 (some 40) (v := ?v37) rfl rfl (by kernel_rfl) (by kernel_rfl) (by kernel_rfl) (Or.inl ⟨by rfl, ?y37⟩) hHeld ?r37
        case y37 => (intro w' hSw; (try dsimp only at hSw); go_simp; try with_reducible rfl)
        try simp only [Act.put, List.setIfInBounds_toArray, List.set_cons_zero, List.set_cons_succ]
        refine takeO 5 (some 41) (v := ?v38) rfl rfl (by kernel_rfl) (by kernel_rfl) (by kernel_rfl) (Or.inl ⟨by rfl, ?y38⟩) hHeld ?r38
        case y38 => (intro w' hSw; (try dsimp only at hSw); go_simp; try with_reducible rfl)
        try simp only [Act.put, List.setIfInBounds_toArray, List.set_cons_zero, List.set_cons_succ]
        refine takeO 6 (some 42) (v := ?v39) rfl rfl (by kernel_rfl) (by kernel_rfl) (by kernel_rfl) (Or.inl ⟨by rfl, ?y39⟩) hHeld ?r39
        case y39 => (intro w' hSw; (try dsimp only at hSw); go_simp; try with_reducible rfl)
        try simp only [Act.put, List.setIfInBounds_toArray, List.set_cons_zero, List.set_cons_succ]
        refine takeO 7 (some 43) (v := ?v40) rfl rfl (by kernel_rfl) (by kernel_rfl) (by kernel_rfl) (Or.inl ⟨by rfl, ?y40⟩) hHeld ?r40
        case y40 => (intro w' hSw; (try dsimp only at hSw); go_simp; try with_reducible rfl)
        try simp only [Act.put, List.setIfInBounds_toArray, List.set_cons_zero, List.set_cons_succ]
        refine takeO 8 (some 44) (v := ?v41) rfl rfl (by kernel_rfl) (by kernel_rfl) (by kernel_rfl) (Or.inl ⟨by rfl, ?y41⟩) hHeld ?r41
        case y41 => (intro w' hSw; (try dsimp only at hSw); go_simp; try with_reducible rfl)
        try simp only [Act.put, List.setIfInBounds_toArray, List.set_cons_zero, List.set_cons_succ]
        refine takeO 9 (some 45) (v := ?v42) rfl rfl (by kernel_rfl) (by kernel_rfl) (by kernel_rfl) (Or.inl ⟨by rfl, ?y42⟩) hHeld ?r42
        case y42 => (intro w' hSw; (try dsimp only at hSw); go_simp; try with_reducible rfl)
        try simp only [Act.put, List.setIfInBounds_toArray, List.set_cons_zero, List.set_cons_succ]
        refine takeO 10 (some 46) (v := ?v43) rfl rfl (by kernel_rfl) (by kernel_rfl) (by kernel_rfl) (Or.inl ⟨by rfl, ?y43⟩) hHeld ?r43
        case y43 => (intro w' hSw; (try dsimp only at hSw); go_simp; try with_reducible rfl)
        try simp only [Act.put, List.setIfInBounds_toArray, List.set_cons_zero, List.set_cons_succ]
        refine takeO 12 (some 48) (v := ?v44) rfl rfl (by kernel_rfl) (by kernel_rfl) (by kernel_rfl) (Or.inl ⟨by rfl, ?y44⟩) hHeld ?r44
        case y44 => (intro w' hSw; (try dsimp only at hSw); go_simp; try with_reducible rfl)
        try simp only [Act.put, List.setIfInBounds_toArray, List.set_cons_zero, List.set_cons_succ]
        refine takeO 13 (some 49) (v := ?v45) rfl rfl (by kernel_rfl) (by kernel_rfl) (by kernel_rfl) (Or.inl ⟨by rfl, ?y45⟩) hHeld ?r45
        case y45 => (intro w' hSw; (try dsimp only at hSw); go_simp; try with_reducible rfl)
        try simp only [Act.put, List.setIfInBounds_toArray, List.set_cons_zero, List.set_cons_succ]
        refine takeO 14 (some 50) (v := ?v46) rfl rfl (by kernel_rfl) (by kernel_rfl) (by kernel_rfl) (Or.inl ⟨by rfl, ?y46⟩) hHeld ?r46
        case y46 => (intro w' hSw; (try dsimp only at hSw); go_simp; try with_reducible rfl)
        try simp only [Act.put, List.setIfInBounds_toArray, List.set_cons_zero, List.set_cons_succ]
        refine takeO 15 (some 51) (v := ?v47) rfl rfl (by kernel_rfl) (by kernel_rfl) (by kernel_rfl) (Or.inl ⟨by rfl, ?y47⟩) hHeld ?r47
        case y47 => (intro w' hSw; (try dsimp only at hSw); go_simp; try with_reducible rfl)
        try simp only [Act.put, List.setIfInBounds_toArray, List.set_cons_zero, List.set_cons_succ]
        refine takeO 16 (some 52) (v := ?v48) rfl rfl (by kernel_rfl) (by kernel_rfl) (by kernel_rfl) (Or.inl ⟨by rfl, ?y48⟩) hHeld ?r48
        case y48 => (intro w' hSw; (try dsimp only at hSw); go_simp; try with_reducible rfl)
        try simp only [Act.put, List.setIfInBounds_toArray, List.set_cons_zero, List.set_cons_succ]
        refine takeO 17 (some 53) (v := ?v49) rfl rfl (by kernel_rfl) (by kernel_rfl) (by kernel_rfl) (Or.inl ⟨by rfl, ?y49⟩) hHeld ?r49
        case y49 => (intro w' hSw; (try dsimp only at hSw); go_simp; try with_reducible rfl)
        try simp only [Act.put, List.setIfInBounds_toArray, List.set_cons_zero, List.set_cons_succ]
        refine wpAnyH_ready (rs := [11]) (by kernel_rfl) (by simp) ?_
        refine AllReadyH.cons rfl (fun K hK => ?_) AllReadyH.nil
        go_simp
        refine hK.out _ _ hHeld (fun hHeld => ?_)
        clear hK K
        refine takeO 18 (some 54) (v := ?v50) rfl rfl (by kernel_rfl) (by kernel_rfl) (by kernel_rfl) (Or.inl ⟨by rfl, ?y50⟩) hHeld ?r50
        case y50 => (intro w' hSw; (try dsimp only at hSw); go_simp; try with_reducible rfl)
        try simp only [Act.put, List.setIfInBounds_toArray, List.set_cons_zero, List.set_cons_succ]
        refine takeO 19 (some 55) (v := ?v51) rfl rfl (by kernel_rfl) (by kernel_rfl) (by kernel_rfl) (Or.inl ⟨by rfl, ?y51⟩) hHeld ?r51
        case y51 => (intro w' hSw; (try dsimp only at hSw); go_simp; try with_reducible rfl)
        try simp only [Act.put, List.setIfInBounds_toArray, List.set_cons_zero, List.set_cons_succ]
        refine wpAnyH_ready (rs := [20]) (by kernel_rfl) (by simp) ?_
        refine AllReadyH.cons rfl (fun K hK => ?_) AllReadyH.nil
        go_simp
        refine hK.out _ _ ⟨(World.cell?_setCell_far _ _ _ _ hne).trans dw, (World.cell?_setCell_far _ _ _ _ hgb).trans d0, (World.cell?_setCell_far _ _ _ _ hgb).trans d1⟩ (fun hHeld => ?_)
        clear hK K
        refine wpAnyH_done (by kernel_rfl) (Only.on ?_) _
        have hF4 : Fr S' W (W3.setCell ⟨g2, q, none⟩ (.int .u8 ((setBit y2 f' y : Nat) : Int))).drew := (hF3.setNew (p := ⟨g2, q, none⟩) (HR.out.sub2 _ hSg) _).drew
        have hK4 : KeepsOthers W (W3.setCell ⟨g2, q, none⟩ (.int .u8 ((setBit y2 f' y : Nat) : Int))).drew := (hK3.trans (KeepsOthers.setCell _ _ _)).trans (ko_drewN _ 1)
        have hI4 : PutI w W0 S b w.heap.size bs (pre ++ [y]) (W3.setCell ⟨g2, q, none⟩ (.int .u8 ((setBit y2 f' y : Nat) : Int))).drew := by
          refine ⟨⟨S2, ⟨ys2.set q (setBit y2 f' y), f', .slice (some ⟨g2, 0, none⟩) ys2.length cap2, ?_, by rw [← List.append_assoc]; exact HPK.out⟩, HR.out.sub⟩, ⟨(HX3.out.other hne.symm (o := q) (.int .u8 ((setBit y2 f' y : Nat) : Int))).obj⟩, HF.out.trans hF4 (fun k hk e => (hsub k e).elim id (fun e => by have := HS0.out; omega)), Nat.le_trans hle hF4.size⟩
          exact (H3.out.setRow q (setBit y2 f' y)).keep (S' := fun _ => False) ((Fr.refl _ _).drew) (fun _ _ e => e)
        have hC4 : Kc (fun k => S k ∨ w.heap.size + 3 ≤ k) W (W3.setCell ⟨g2, q, none⟩ (.int .u8 ((setBit y2 f' y : Nat) : Int))).drew := (Kc.of_fr hF4).mono (fun k hk => (hsub k hk).imp id (fun e => by have := HS0.out; omega))
        gi_wp2
        exact ⟨hK4, hC4, hI4⟩
    · obtain ⟨f', rfl⟩ : ∃ f', f = f' + 1 := ⟨f - 1, by omega⟩
      have key : ∃ (ys2 : List Nat) (f' : Nat) (S2 : Nat → Prop) (v2 : Value), Room W W0 W S S' S2 b ys2 f' v2 (bs ++ pre) :=
        ⟨ys, f', S', v, by have := hb; rwa [Int.natCast_add] at this, hp.bits, by have := hp.few; omega, hp.byte, by have := hp.len; omega, by omega, hsub, fun k hk => .inl hk⟩
      have e1 : ((((f' + 1 : Nat) : Int)) == 0) = false := beq_eq_false_iff_ne.2 (by omega)
      have HX2 := hbox
      have HF2 : Fr S' W W := Fr.refl _ _
      have hko2 := KeepsOthers.refl W
      have HSb := hb.inb
      have HF := hid hfr
      have e2 : ∀ k : Nat, (((k : Int) + 1) == 0) = false := fun k => beq_eq_false_iff_ne.2 (by omega)
      clear hb hp hbox hfr hstops c1 e1 hf0 c0 cw
      have hF2 := hid HF2
      have hX2 := hid HX2
      have hKO := hid hko2
      obtain ⟨ys2, f', S2, v2, hR⟩ := key
      obtain ⟨g2, cap2, rfl, hca, hcb, hgb, hSg, hgl, hcs, hfs⟩ := hR.bx.at (j := ys2.length - 1) (by have := hR.some; omega)
      obtain ⟨d0, d1, hlt2⟩ := hR.bx.cells
      have dz := hR.bx.thaw 1
      have dw := HX2.cell
      have hf8 := hR.few
      have HR := hid hR
      unfold maxLen at hcb
      clear hcs hfs hR HX2 HF2 hko2
      gi_wp2
      have h3 := HR.out.bx.setSecond (f' : Int)
      have hX3 := hX2.out.other hbw.symm (o := 1) (.int .i64 (f' : Int))
      have hF3 := hF2.out.setCell (p := ⟨b, 1, none⟩) HSb (.int .i64 (f' : Int))
      have hK3 := hKO.out.trans (KeepsOthers.setCell W ⟨b, 1, none⟩ (.int .i64 (f' : Int)))
      have hs3 : W.heap.size = (W.setCell ⟨b, 1, none⟩ (.int .i64 (f' : Int))).heap.size := by simp [World.setCell]
      generalize W.setCell ⟨b, 1, none⟩ (.int .i64 (f' : Int)) = W3 at *
      clear d0 d1 dw dz hX2 hF2 hKO
      obtain ⟨q, hq⟩ : ∃ q, ys2.length = q + 1 := ⟨ys2.length - 1, by have := HR.out.some; omega⟩
      obtain ⟨g3, cap3, hv3, _, _, _, _, _, hcs, hfs⟩ := h3.at (j := q) (by omega)
      cases hv3
      have d3 := hcs q (by omega)
      have z3 := hfs q (by omega)
      obtain ⟨d0, d1, _⟩ := h3.cells
      have dw := hX3.cell
      have hy2 : ys2.getD q 0 < 256 := by rw [List.getD_eq_getElem?_getD, List.getElem?_eq_getElem (by omega)]; exact HR.out.byte _ (List.getElem_mem _)
      rw [hq] at d0 hca
      have hor := put_bit' (y := ys2.getD q 0) (b := y) hy2 hf8
      have hpk := packs_set (b := y) HR.out.un hf8 HR.out.byte HR.out.some
      have e4 : ys2.length - 1 = q := by omega
      rw [e4] at hpk
      obtain ⟨y2, hy2e⟩ : ∃ y2, ys2.getD q 0 = y2 := ⟨_, rfl⟩
      rw [hy2e] at d3 hor hpk
      have hne : g2 ≠ w.heap.size := fun e => by
        rw [e] at hSg
        rcases HR.out.sub _ hSg with e | e
        · have := H.out.lt _ e; omega
        · have := HS0.out; omega
      have H3 := hid h3
      have HX3 := hid hX3
      have HPK := hid hpk
      have HQ := hid hq
      have hq3 : (q : Int) < (q : Int) + 1 := by omega
      have hwq : IntKind.i64.wrap (q : Int) = (q : Int) := wrap_i64 (by omega) (by have := HR.out.much; omega)
      clear hcs hfs hq h3 hX3 hpk hy2e e4 hy2
      refine round_held (fun w' => w'.cell? ⟨w.heap.size, 0, none⟩ = some (.pointer (some ⟨b, 0, none⟩)) ∧ w'.cell? ⟨b, 0, none⟩ = some (.slice (some ⟨g2, 0, none⟩) (q + 1) cap2) ∧ w'.cell? ⟨b, 1, none⟩ = some (.int .i64 (f' : Int))) 21 rfl (by kernel_rfl) (by kernel_rfl) ⟨dw, d0, d1⟩ ?_
      intro hHeld
      refine takeO 0 (some 36) (v := ?v52) rfl rfl (by kernel_rfl) (by kernel_rfl) (by kernel_rfl) (Or.inl ⟨by rfl, ?y52⟩) hHeld ?r52
      case y52 => (intro w' hSw; (try dsimp only at hSw); go_simp; try with_reducible rfl)
      try simp only [Act.put, List.setIfInBounds_toArray, List.set_cons_zero, List.set_cons_succ]
      refine takeO 1 (some 37) (v := ?v53) rfl rfl (by kernel_rfl) (by kernel_rfl) (by kernel_rfl) (Or.inl ⟨by rfl, ?y53⟩) hHeld ?r53
      case y53 => (intro w' hSw; (try dsimp only at hSw); go_simp; try with_reducible rfl)
      try simp only [Act.put, List.setIfInBounds_toArray, List.set_cons_zero, List.set_cons_succ]
      refine takeO 2 (some 38) (v := ?v54) rfl rfl (by kernel_rfl) (by kernel_rfl) (by kernel_rfl) (Or.inl ⟨by rfl, ?y54⟩) hHeld ?r54
      case y54 => (intro w' hSw; (try dsimp only at hSw); go_simp; try with_reducible rfl)
      try simp only [Act.put, List.setIfInBounds_toArray, List.set_cons_zero, List.set_cons_succ]
      refine takeO 3 (some 39) (v := ?v55) rfl rfl (by kernel_rfl) (by kernel_rfl) (by kernel_rfl) (Or.inl ⟨by rfl, ?y55⟩) hHeld ?r55
      case y55 => (intro w' hSw; (try dsimp only at hSw); go_simp; try with_reducible rfl)
      try simp only [Act.put, List.setIfInBounds_toArray, List.set_cons_zero, List.set_cons_succ]
      refine takeO 4 (some 40) (v := ?v56) rfl rfl (by kernel_rfl) (by kernel_rfl) (by kernel_rfl) (Or.inl ⟨by rfl, ?y56⟩) hHeld ?r56
      case y56 => (intro w' hSw; (try dsimp only at hSw); go_simp; try with_reducible rfl)
      try simp only [Act.put, List.setIfInBounds_toArray, List.set_cons_zero, List.set_cons_succ]
      refine takeO 5 (some 41) (v := ?v57) rfl rfl (by kernel_rfl) (by kernel_rfl) (by kernel_rfl) (Or.inl ⟨by rfl, ?y57⟩) hHeld ?r57
      case y57 => (intro w' hSw; (try dsimp only at hSw); go_simp; try with_reducible rfl)
      try simp only [Act.put, List.setIfInBounds_toArray, List.set_cons_zero, List.set_cons_succ]
      refine takeO 6 (some 42) (v := ?v58) rfl rfl (by kernel_rfl) (by kernel_rfl) (by kernel_rfl) (Or.inl ⟨by rfl, ?y58⟩) hHeld ?r58
      case y58 => (intro w' hSw; (try dsimp only at hSw); go_simp; try with_reducible rfl)
      try simp only [Act.put, List.setIfInBounds_toArray, List.set_cons_zero, List.set_cons_succ]
      refine takeO 7 (some 43) (v := ?v59) rfl rfl (by kernel_rfl) (by kernel_rfl) (by kernel_rfl) (Or.inl ⟨by rfl, ?y59⟩) hHeld ?r59
      case y59 => (intro w' hSw; (try dsimp only at hSw); go_simp; try with_reducible rfl)
      try simp only [Act.put, List.setIfInBounds_toArray, List.set_cons_zero, List.set_cons_succ]
      refine takeO 8 (some 44) (v := ?v60) rfl rfl (by kernel_rfl) (by kernel_rfl) (by kernel_rfl) (Or.inl ⟨by rfl, ?y60⟩) hHeld ?r60
      case y60 => (intro w' hSw; (try dsimp only at hSw); go_simp; try with_reducible rfl)
      try simp only [Act.put, List.setIfInBounds_toArray, List.set_cons_zero, List.set_cons_succ]
      refine takeO 9 (some 45) (v := ?v61) rfl rfl (by kernel_rfl) (by kernel_rfl) (by kernel_rfl) (Or.inl ⟨by rfl, ?y61⟩) hHeld ?r61
      case y61 => (intro w' hSw; (try dsimp only at hSw); go_simp; try with_reducible rfl)
      try simp only [Act.put, List.setIfInBounds_toArray, List.set_cons_zero, List.set_cons_succ]
      refine takeO 10 (some 46) (v := ?v62) rfl rfl (by kernel_rfl) (by kernel_rfl) (by kernel_rfl) (Or.inl ⟨by rfl, ?y62⟩) hHeld ?r62
      case y62 => (intro w' hSw; (try dsimp only at hSw); go_simp; try with_reducible rfl)
      try simp only [Act.put, List.setIfInBounds_toArray, List.set_cons_zero, List.set_cons_succ]
      refine takeO 12 (some 48) (v := ?v63) rfl rfl (by kernel_rfl) (by kernel_rfl) (by kernel_rfl) (Or.inl ⟨by rfl, ?y63⟩) hHeld ?r63
      case y63 => (intro w' hSw; (try dsimp only at hSw); go_simp; try with_reducible rfl)
      try simp only [Act.put, List.setIfInBounds_toArray, List.set_cons_zero, List.set_cons_succ]
      refine takeO 13 (some 49) (v := ?v64) rfl rfl (by kernel_rfl) (by kernel_rfl) (by kernel_rfl) (Or.inl ⟨by rfl, ?y64⟩) hHeld ?r64
      case y64 => (intro w' hSw; (try dsimp only at hSw); go_simp; try with_reducible rfl)
      try simp only [Act.put, List.setIfInBounds_toArray, List.set_cons_zero, List.set_cons_succ]
      refine takeO 14 (some 50) (v := ?v65) rfl rfl (by kernel_rfl) (by kernel_rfl) (by kernel_rfl) (Or.inl ⟨by rfl, ?y65⟩) hHeld ?r65
      case y65 => (intro w' hSw; (try dsimp only at hSw); go_simp; try with_reducible rfl)
      try simp only [Act.put, List.setIfInBounds_toArray, List.set_cons_zero, List.set_cons_succ]
      refine takeO 15 (some 51) (v := ?v66) rfl rfl (by kernel_rfl) (by kernel_rfl) (by kernel_rfl) (Or.inl ⟨by rfl, ?y66⟩) hHeld ?r66
      case y66 => (intro w' hSw; (try dsimp only at hSw); go_simp; try with_reducible rfl)
      try simp only [Act.put, List.setIfInBounds_toArray, List.set_cons_zero, List.set_cons_succ]
      refine takeO 16 (some 52) (v := ?v67) rfl rfl (by kernel_rfl) (by kernel_rfl) (by kernel_rfl) (Or.inl ⟨by rfl, ?y67⟩) hHeld ?r67
      case y67 => (intro w' hSw; (try dsimp only at hSw); go_simp; try with_reducible rfl)
      try simp only [Act.put, List.setIfInBounds_toArray, List.set_cons_zero, List.set_cons_succ]
      refine takeO 17 (some 53) (v := ?v68) rfl rfl (by kernel_rfl) (by kernel_rfl) (by kernel_rfl) (Or.inl ⟨by rfl, ?y68⟩) hHeld ?r68
      case y68 => (intro w' hSw; (try dsimp only at hSw); go_simp; try with_reducible rfl)
      try simp only [Act.put, List.setIfInBounds_toArray, List.set_cons_zero, List.set_cons_succ]
      refine wpAnyH_ready (rs := [11]) (by kernel_rfl) (by simp) ?_
      refine AllReadyH.cons rfl (fun K hK => ?_) AllReadyH.nil
      go_simp
      refine hK.out _ _ hHeld (fun hHeld => ?_)
      clear hK K
      refine takeO 18 (some 54) (v := ?v69) rfl rfl (by kernel_rfl) (by kernel_rfl) (by kernel_rfl) (Or.inl ⟨by rfl, ?y69⟩) hHeld ?r69
      case y69 => (intro w' hSw; (try dsimp only at hSw); go_simp; try with_reducible rfl)
      try simp only [Act.put, List.setIfInBounds_toArray, List.set_cons_zero, List.set_cons_succ]
      refine takeO 19 (some 55) (v := ?v70) rfl rfl (by kernel_rfl) (by kernel_rfl) (by kernel_rfl) (Or.inl ⟨by rfl, ?y70⟩) hHeld ?r70
      case y70 => (intro w' hSw; (try dsimp only at hSw); go_simp; try with_reducible rfl)
      try simp only [Act.put, List.setIfInBounds_toArray, List.set_cons_zero, List.set_cons_succ]
      refine wpAnyH_ready (rs := [20]) (by kernel_rfl) (by simp) ?_
      refine AllReadyH.cons rfl (fun K hK => ?_) AllReadyH.nil
      go_simp
      refine hK.out _ _ ⟨(World.cell?_setCell_far _ _ _ _ hne).trans dw, (World.cell?_setCell_far _ _ _ _ hgb).trans d0, (World.cell?_setCell_far _ _ _ _ hgb).trans d1⟩ (fun hHeld => ?_)
      clear hK K
      refine wpAnyH_done (by kernel_rfl) (Only.on ?_) _
      have hF4 : Fr S' W (W3.setCell ⟨g2, q, none⟩ (.int .u8 ((setBit y2 f' y : Nat) : Int))).drew := (hF3.setNew (p := ⟨g2, q, none⟩) (HR.out.sub2 _ hSg) _).drew
      have hK4 : KeepsOthers W (W3.setCell ⟨g2, q, none⟩ (.int .u8 ((setBit y2 f' y : Nat) : Int))).drew := (hK3.trans (KeepsOthers.setCell _ _ _)).trans (ko_drewN _ 1)
      have hI4 : PutI w W0 S b w.heap.size bs (pre ++ [y]) (W3.setCell ⟨g2, q, none⟩ (.int .u8 ((setBit y2 f' y : Nat) : Int))).drew := by
        refine ⟨⟨S2, ⟨ys2.set q (setBit y2 f' y), f', .slice (some ⟨g2, 0, none⟩) ys2.length cap2, ?_, by rw [← List.append_assoc]; exact HPK.out⟩, HR.out.sub⟩, ⟨(HX3.out.other hne.symm (o := q) (.int .u8 ((setBit y2 f' y : Nat) : Int))).obj⟩, HF.out.trans hF4 (fun k hk e => (hsub k e).elim id (fun e => by have := HS0.out; omega)), Nat.le_trans hle hF4.size⟩
        exact (H3.out.setRow q (setBit y2 f' y)).keep (S' := fun _ => False) ((Fr.refl _ _).drew) (fun _ _ e => e)
      have hC4 : Kc (fun k => S k ∨ w.heap.size + 3 ≤ k) W (W3.setCell ⟨g2, q, none⟩ (.int .u8 ((setBit y2 f' y : Nat) : Int))).drew := (Kc.of_fr hF4).mono (fun k hk => (hsub k hk).imp id (fun e => by have := HS0.out; omega))
      gi_wp2
      exact ⟨hK4, hC4, hI4⟩
  · rintro D zs W hD rfl hI hK
    have HI := hid hI
    clear hI hstops
    gi_wp2
    refine leaves_one (v := .tuple #[]) (J := fun w' => ∃ S', WrAt w' S' b (bs ++ low n c) ∧ Fr S w w' ∧ Sub w S S') hK (fun o => ?_) (fun W' _ => by simp [results, Try.results41, go_sem])
    obtain ⟨⟨S', h1, h2⟩, _, h4, _⟩ := (PutI.own (B := W0.heap.size) hB0.size).putObj o HI.out hD hK rfl
    exact ⟨S', h1, h4, fun k hk => (h2 k hk).imp id (fun e => Nat.le_trans hB0.size e)⟩
  · rintro D c' pre W hD hsp hix hK
    exact hix.elim
end Go.Proofs.Ytkmiogaklmgnkaa
