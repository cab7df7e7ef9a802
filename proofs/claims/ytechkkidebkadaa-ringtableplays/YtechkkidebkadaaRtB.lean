/- Layer 2's own answer (embrasureref02): Table.Add, Table.Drop (for RingTablePlays). -/
import Derived.Test.YtechkkidebkadaaRtA
namespace Go.Proofs.Ytechkkidebkadaa
open Go.RowKit
set_option linter.unusedVariables false
attribute [local go_sem ↓] Go.wp_at_zero Go.wp_at_succ

theorem step_append_run {P : Program} {w : World} {ops : Array Oper} {o : Oper} {a : Act} {K : Act → World → Prop} {Q : Exit → Act → World → Prop} {E : Prop} (hgd : o.guard = none) (s x : Operand) (t tn : TypeId)
    (ho : o.op = .call { callee := .builtin .append, args := #[s, x], argTypes := #[t, tn] }) (vs vx : Value) (hs : a.eval s = vs) (hx : a.eval x = vx)
    (v' : Value) (w' : World) (hr : (Builtin.append_ #[t, tn] o.type #[vs, vx]).run P w = .ok v' w') (h : K (a.put o.dst v') w') : if Region.wanted o (yielded ops a.tmps) = true then Oper.wp P o a w K Q else E := by
  have hw : Region.wanted o (yielded ops a.tmps) = true := by simp [Region.wanted, hgd]
  rw [if_pos hw]
  exact Lib.wp_append_run w s x t tn ho vs vx hs hx v' w' hr h
theorem alln_one (n : Nat) (x : Int) : AllN [(n, .int .i64 x)] := fun k hk => by
  obtain rfl : k = 0 := by simp at hk; omega
  exact ⟨x, rfl⟩
theorem below_ad (W : World) (o : Obj) : Below W.heap.size W (W.alloc o).drew := (((Below.refl _ W).alloc (Nat.le_refl _) o)).trans (below_drewN _ 1)
set_option maxRecDepth 100000 in
theorem refAdd_full (S : Nat → Prop) (rb L : Nat) (mo : Int) (es : List (Nat × Value)) (v : Value) (x : Int) (m : Nat) (w : World) (h : RefT w S rb mo L es v) (hm : max mo 1 = (m : Int)) (hf : m ≤ es.length) :
    Calls Try.prog 26 #[.pointer (some ⟨rb, 0, none⟩), .int .i64 x] w fun e w' => e = .returned (.tuple #[.int .i64 0, .int .i64 5]) ∧ Below w.heap.size w w' := by
  obtain ⟨c0, c1, c2⟩ := h.cells
  obtain ⟨a, cap, rfl, hle, hmost, _, _⟩ := h.row.form
  unfold maxLen at hmost
  clear h c1
  rcases (by omega : (mo < 1 ∧ (1 : Int) ≤ (es.length : Int)) ∨ (¬ mo < 1 ∧ mo ≤ (es.length : Int))) with ⟨k1, k2⟩ | ⟨k1, k2⟩
  all_goals
    clear hm hf
    go_enter Try.func26, Try.ntmps26
    go_wp2_with fail
    go_quiet (fail)
    go_wp2
    go_ret2
    exact ⟨rfl, below_drewN _ _⟩
set_option maxRecDepth 100000 in
set_option maxHeartbeats 1000000 in
theorem refAdd_room (S : Nat → Prop) (rb L : Nat) (mo : Int) (es : List (Nat × Value)) (v : Value) (x : Int) (m : Nat) (w : World) (h : RefT w S rb mo L es v) (hN : AllN es) (hm : max mo 1 = (m : Int)) (hf : es.length < m) (hm1 : m ≤ 1000) (hL : L < 1000000) :
    Calls Try.prog 26 #[.pointer (some ⟨rb, 0, none⟩), .int .i64 x] w fun e w' => e = .returned (.tuple #[.int .i64 (L + 1 : Nat), .int .i64 0]) ∧ ∃ S' v', RefT w' S' rb mo (L + 1) (es ++ [(L + 1, .int .i64 x)]) v' ∧ Fr S w w' ∧ Sub w S S' := by
  obtain ⟨c0, c1, c2⟩ := h.cells
  have fz := h.thaw 1
  obtain ⟨a, cap, rfl, hle, hmost, _, _⟩ := h.row.form
  unfold maxLen at hmost
  have H := hid h; have HN := hid hN
  clear h hN
  rcases (by omega : (mo < 1 ∧ ¬ (1 : Int) ≤ (es.length : Int)) ∨ (¬ mo < 1 ∧ ¬ mo ≤ (es.length : Int))) with ⟨k1, k2⟩ | ⟨k1, k2⟩
  · skip
    have hel : es.length < 1000 := by omega
    clear hm hf hm1
    go_enter Try.func26, Try.ntmps26
    go_wp2_with fail
    go_quiet (fail)
    go_wp2_with fail
    obtain ⟨hW, hFW⟩ := (H.out.below (below_drewN w nq)).setLast (L + 1)
    have hFW0 : Fr S w ((w.drewN nq).setCell ⟨rb, 1, none⟩ (.int .i64 ((L + 1 : Nat) : Int))) := ((Fr.refl S w).drewN nq).trans hFW (fun _ _ e => e)
    have eL : ((L + 1 : Nat) : Int) = (L : Int) + 1 := by omega
    rw [eL] at hW hFW0
    generalize (w.drewN nq).setCell ⟨rb, 1, none⟩ (.int .i64 ((L : Int) + 1)) = W at *
    obtain ⟨c0, c1, c2⟩ := hW.cells
    rw [eL] at c1
    obtain ⟨v0, hv0⟩ : ∃ v0, Value.slice a es.length cap = v0 := ⟨_, rfl⟩
    have hrl : rb < W.heap.size := hW.lt rb hW.inb
    obtain ⟨a', cap', hvv, _, _, hsrc, _⟩ := hW.row.form
    cases hvv
    have HW := hid hW; have HSRC := hid hsrc
    have k1' : ∀ w', Below W.heap.size W w' → w'.cell? ⟨rb, 1, none⟩ = some (.int .i64 ((L : Int) + 1)) := fun w' hb => (hb.cell (p := ⟨rb, 1, none⟩) hrl).trans c1
    have k2' : ∀ w', Below W.heap.size W w' → w'.cell? ⟨rb, 2, none⟩ = some (.slice a es.length cap) := fun w' hb => (hb.cell (p := ⟨rb, 2, none⟩) hrl).trans c2
    have HV := hid hv0.symm
    rw [hv0] at c2
    clear hW hsrc hFW hv0 H c0 fz k1 k2
    refine region_Z (fun w' => Below W.heap.size W w') 17 18 rfl (by kernel_rfl) (below_drewN W 1) ?_
    intro hHeld
    refine takeZ 0 (some 24) (v := ?v1) rfl rfl (by kernel_rfl) (by kernel_rfl) (by kernel_rfl) (by kernel_rfl) (Or.inl ⟨by rfl, ?y1⟩) hHeld ?r1
    case y1 => (intro w' hSw; (try dsimp only at hSw); go_simp; try with_reducible rfl)
    try simp only [Act.put, List.setIfInBounds_toArray, List.set_cons_zero, List.set_cons_succ]
    refine takeZ 2 (some 26) (v := ?v2) rfl rfl (by kernel_rfl) (by kernel_rfl) (by kernel_rfl) (by kernel_rfl) (Or.inl ⟨by rfl, ?y2⟩) hHeld ?r2
    case y2 => (intro w' hSw; (try dsimp only at hSw); go_simp; try with_reducible rfl)
    try simp only [Act.put, List.setIfInBounds_toArray, List.set_cons_zero, List.set_cons_succ]
    refine takeZ 3 (some 27) (v := ?v3) rfl rfl (by kernel_rfl) (by kernel_rfl) (by kernel_rfl) (by kernel_rfl) (Or.inl ⟨by rfl, ?y3⟩) hHeld ?r3
    case y3 => (intro w' hSw; (try dsimp only at hSw); go_simp; try with_reducible rfl)
    try simp only [Act.put, List.setIfInBounds_toArray, List.set_cons_zero, List.set_cons_succ]
    refine takeZ 4 (some 28) (v := ?v4) rfl rfl (by kernel_rfl) (by kernel_rfl) (by kernel_rfl) (by kernel_rfl) (Or.inl ⟨by rfl, ?y4⟩) hHeld ?r4
    case y4 => (intro w' hSw; (try dsimp only at hSw); go_simp; try with_reducible rfl)
    try simp only [Act.put, List.setIfInBounds_toArray, List.set_cons_zero, List.set_cons_succ]
    refine takeZ 5 (some 29) (v := ?v5) rfl rfl (by kernel_rfl) (by kernel_rfl) (by kernel_rfl) (by kernel_rfl) (Or.inl ⟨by rfl, ?y5⟩) hHeld ?r5
    case y5 => (intro w' hSw; (try dsimp only at hSw); go_simp; try with_reducible rfl)
    try simp only [Act.put, List.setIfInBounds_toArray, List.set_cons_zero, List.set_cons_succ]
    refine takeZ 7 (some 31) (v := ?v6) rfl rfl (by kernel_rfl) (by kernel_rfl) (by kernel_rfl) (by kernel_rfl) (Or.inl ⟨by rfl, ?y6⟩) hHeld ?r6
    case y6 => (intro w' hSw; (try dsimp only at hSw); go_simp; try with_reducible rfl)
    try simp only [Act.put, List.setIfInBounds_toArray, List.set_cons_zero, List.set_cons_succ]
    refine takeZ 8 (some 32) (v := ?v7) rfl rfl (by kernel_rfl) (by kernel_rfl) (by kernel_rfl) (by kernel_rfl) (Or.inl ⟨by rfl, ?y7⟩) hHeld ?r7
    case y7 => (intro w' hSw; (try dsimp only at hSw); go_simp; try with_reducible rfl)
    try simp only [Act.put, List.setIfInBounds_toArray, List.set_cons_zero, List.set_cons_succ]
    refine takeZ 9 (some 33) (v := ?v8) rfl rfl (by kernel_rfl) (by kernel_rfl) (by kernel_rfl) (by kernel_rfl) (Or.inl ⟨by rfl, ?y8⟩) hHeld ?r8
    case y8 => (intro w' hSw; (try dsimp only at hSw); go_simp; try with_reducible rfl)
    try simp only [Act.put, List.setIfInBounds_toArray, List.set_cons_zero, List.set_cons_succ]
    refine takeZ 10 (some 34) (v := ?v9) rfl rfl (by kernel_rfl) (by kernel_rfl) (by kernel_rfl) (by kernel_rfl) (Or.inl ⟨by rfl, ?y9⟩) hHeld ?r9
    case y9 => (intro w' hSw; (try dsimp only at hSw); go_simp; try with_reducible rfl)
    try simp only [Act.put, List.setIfInBounds_toArray, List.set_cons_zero, List.set_cons_succ]
    refine takeZ 11 (some 35) (v := ?v10) rfl rfl (by kernel_rfl) (by kernel_rfl) (by kernel_rfl) (by kernel_rfl) (Or.inl ⟨by rfl, ?y10⟩) hHeld ?r10
    case y10 => (intro w' hSw; (try dsimp only at hSw); go_simp; try with_reducible rfl)
    try simp only [Act.put, List.setIfInBounds_toArray, List.set_cons_zero, List.set_cons_succ]
    refine takeZ 12 (some 36) (v := ?v11) rfl rfl (by kernel_rfl) (by kernel_rfl) (by kernel_rfl) (by kernel_rfl) (Or.inl ⟨by rfl, ?y11⟩) hHeld ?r11
    case y11 => (intro w' hSw; (try dsimp only at hSw); go_simp; try with_reducible rfl)
    try simp only [Act.put, List.setIfInBounds_toArray, List.set_cons_zero, List.set_cons_succ]
    have hN := HN.out
    refine wpAnyZ_ready (rs := [1, 13]) (by kernel_rfl) (by simp) ?_
    refine AllReadyZ.cons rfl (fun K hK => ?_) (AllReadyZ.cons rfl (fun K hK => ?_) AllReadyZ.nil)
    · go_simp
      have row1 : RowE (W.alloc (.cells #[] 61)).drew W.heap.size (.slice (some ⟨W.heap.size, 0, none⟩) 0 0) [] := (rowE_new W).below (below_drewN _ 1)
      have hB1 := below_ad W (.cells #[] 61)
      have hg1 : W.heap.size < (W.alloc (.cells #[] 61)).drew.heap.size := by show W.heap.size < (W.alloc (.cells #[] 61)).heap.size; simp
      generalize (W.alloc (.cells #[] 61)).drew = X1 at *
      refine hK.out _ _ hB1 (fun hHeld => ?_)
      clear hK K
      refine wpAnyZ_ready (rs := [6, 13]) (by kernel_rfl) (by simp) ?_
      refine AllReadyZ.cons rfl (fun K hK => ?_) (AllReadyZ.cons rfl (fun K hK => ?_) AllReadyZ.nil)
      · obtain ⟨a2, c2', X2, r2, row2, b2, _⟩ := appendE (cap := cap) 54 row1 (HSRC.out.keep hB1) hN hB1.size (by simp; omega)
        rw [List.nil_append] at r2 row2
        have hB2 := hB1.trans b2
        clear row1 b2
        refine step_append_run (by rfl) _ _ 54 54 (by rfl) _ _ (by rfl) (by rfl) _ _ r2 ?_
        change K (Act.put _ (some 30) _) _
        simp only [Act.put, List.setIfInBounds_toArray, List.set_cons_zero, List.set_cons_succ]
        refine hK.out _ _ hB2 (fun hHeld => ?_)
        clear hK K r2
        refine wpAnyZ_ready (rs := [13]) (by kernel_rfl) (by simp) ?_
        refine AllReadyZ.cons rfl (fun K hK => ?_) AllReadyZ.nil
        go_simp
        have src := srcE_one X2 (L + 1) x
        rw [eL] at src
        have hbb : Below X2.heap.size X2 (X2.alloc (.cells #[.int .i64 ((L : Int) + 1), .int .i64 x] 61)) := (Below.refl _ _).alloc (Nat.le_refl _) _
        have row := row2.below hbb
        have hB := hB2.trans (hbb.mono hB2.size)
        obtain ⟨sb, hsb⟩ : ∃ sb, X2.heap.size = sb := ⟨_, rfl⟩
        rw [hsb] at src ⊢
        generalize X2.alloc (.cells #[.int .i64 ((L : Int) + 1), .int .i64 x] 61) = X3 at *
        clear row2 hB2 hbb
        refine hK.out _ _ hB (fun hHeld => ?_)
        clear hK K
        -- both appended: at world X, row, src, hB
        obtain ⟨a4, c4, X4, r4, row4, b4, _⟩ := appendE (cap := 1) 54 row src (alln_one (L + 1) x) hB.size (by simp; omega)
        have e4 : ([(L + 1, Value.int .i64 x)] : List (Nat × Value)).length = 1 := rfl
        rw [e4] at r4
        have hB4 := hB.trans b4
        obtain ⟨m4, hm4⟩ : ∃ m4, (es ++ [(L + 1, Value.int .i64 x)]).length = m4 := ⟨_, rfl⟩
        have ROW4 := hid row4
        rw [hm4] at r4 row4
        have HM4 := hid hm4
        clear hm4 e4 src row b4
        refine wpAnyZ_ready (rs := [14]) (by kernel_rfl) (by simp) ?_
        refine AllReadyZ.cons rfl (fun K hK => ?_) AllReadyZ.nil
        refine step_append_run (by rfl) _ _ 54 54 (by rfl) _ _ (by rfl) (by rfl) _ _ r4 ?_
        change K (Act.put _ (some 38) _) _
        simp only [Act.put, List.setIfInBounds_toArray, List.set_cons_zero, List.set_cons_succ]
        refine hK.out _ _ hB4 (fun hHeld => ?_)
        clear hK K r4
        refine wpAnyZ_ready (rs := [15]) (by kernel_rfl) (by simp) ?_
        refine AllReadyZ.cons rfl (fun K hK => ?_) AllReadyZ.nil
        go_simp
        refine hK.out _ _ hB4 (fun hHeld => ?_)
        clear hK K
        refine takeZ 16 (some 40) (v := ?v12) rfl rfl (by kernel_rfl) (by kernel_rfl) (by kernel_rfl) (by kernel_rfl) (Or.inl ⟨by rfl, ?y12⟩) hHeld ?r12
        case y12 => (intro w' hSw; (try dsimp only at hSw); go_simp; try with_reducible rfl)
        try simp only [Act.put, List.setIfInBounds_toArray, List.set_cons_zero, List.set_cons_succ]
        refine wpAnyZ_ready (rs := [17]) (by kernel_rfl) (by simp) ?_
        refine AllReadyZ.last rfl (fun K hK => ?_)
        have d0 : X4.cell? ⟨rb, 2, none⟩ = some v0 := (hB4.cell (p := ⟨rb, 2, none⟩) hrl).trans c2
        have df : X4.frozen? ⟨rb, 2, none⟩ = false := (hB4.frozen (p := ⟨rb, 2, none⟩) hrl).trans (HW.out.thaw 2)
        rw [HV.out] at d0
        go_simp
        obtain ⟨hN4, hF4, hS4⟩ := HW.out.stored hB4 ROW4.out
        have d1 := hN4.cells.2.1
        rw [HM4.out] at hN4 hF4 d1
        rw [eL] at d1
        have HN4 := hid hN4; have HF4 := hid hF4
        refine hK.out _ _ ?_
        clear hK K d0 df hN4 hF4
        refine wpAnyZ_done (by kernel_rfl) (Only.on ?_) _
        go_wp2_with fail
        go_ret2
        exact ⟨by first | rfl | (rw [eL]; rfl) | rw [eL], _, _, HN4.out, hFW0.trans HF4.out (fun _ _ e => e), fun k hk => (hS4 k hk).imp id (fun e => Nat.le_trans hFW0.size e)⟩
      · go_simp
        have src0 := srcE_one X1 (L + 1) x
        rw [eL] at src0
        have hbb : Below X1.heap.size X1 (X1.alloc (.cells #[.int .i64 ((L : Int) + 1), .int .i64 x] 61)) := (Below.refl _ _).alloc (Nat.le_refl _) _
        have row0 := row1.below hbb
        have hB0 := hB1.trans (hbb.mono hB1.size)
        obtain ⟨sb, hsb⟩ : ∃ sb, X1.heap.size = sb := ⟨_, rfl⟩
        rw [hsb] at src0 hg1 ⊢
        generalize X1.alloc (.cells #[.int .i64 ((L : Int) + 1), .int .i64 x] 61) = X2 at *
        clear row1 hB1 hbb
        refine hK.out _ _ hB0 (fun hHeld => ?_)
        clear hK K
        refine wpAnyZ_ready (rs := [6]) (by kernel_rfl) (by simp) ?_
        refine AllReadyZ.cons rfl (fun K hK => ?_) AllReadyZ.nil
        obtain ⟨a2, c2', X3, r2, row, b2, f2⟩ := appendE (cap := cap) 54 row0 (HSRC.out.keep hB0) hN hB0.size (by simp; omega)
        rw [List.nil_append] at r2 row
        have hB := hB0.trans b2
        have src := src0.fr f2 (fun ad had => by cases had; intro e; have e2 : W.heap.size = sb := Option.some.inj e; omega)
        clear row0 b2 f2 src0 hB0
        refine step_append_run (by rfl) _ _ 54 54 (by rfl) _ _ (by rfl) (by rfl) _ _ r2 ?_
        change K (Act.put _ (some 30) _) _
        simp only [Act.put, List.setIfInBounds_toArray, List.set_cons_zero, List.set_cons_succ]
        refine hK.out _ _ hB (fun hHeld => ?_)
        clear hK K r2
        -- both appended: at world X, row, src, hB
        obtain ⟨a4, c4, X4, r4, row4, b4, _⟩ := appendE (cap := 1) 54 row src (alln_one (L + 1) x) hB.size (by simp; omega)
        have e4 : ([(L + 1, Value.int .i64 x)] : List (Nat × Value)).length = 1 := rfl
        rw [e4] at r4
        have hB4 := hB.trans b4
        obtain ⟨m4, hm4⟩ : ∃ m4, (es ++ [(L + 1, Value.int .i64 x)]).length = m4 := ⟨_, rfl⟩
        have ROW4 := hid row4
        rw [hm4] at r4 row4
        have HM4 := hid hm4
        clear hm4 e4 src row b4
        refine wpAnyZ_ready (rs := [14]) (by kernel_rfl) (by simp) ?_
        refine AllReadyZ.cons rfl (fun K hK => ?_) AllReadyZ.nil
        refine step_append_run (by rfl) _ _ 54 54 (by rfl) _ _ (by rfl) (by rfl) _ _ r4 ?_
        change K (Act.put _ (some 38) _) _
        simp only [Act.put, List.setIfInBounds_toArray, List.set_cons_zero, List.set_cons_succ]
        refine hK.out _ _ hB4 (fun hHeld => ?_)
        clear hK K r4
        refine wpAnyZ_ready (rs := [15]) (by kernel_rfl) (by simp) ?_
        refine AllReadyZ.cons rfl (fun K hK => ?_) AllReadyZ.nil
        go_simp
        refine hK.out _ _ hB4 (fun hHeld => ?_)
        clear hK K
        refine takeZ 16 (some 40) (v := ?v13) rfl rfl (by kernel_rfl) (by kernel_rfl) (by kernel_rfl) (by kernel_rfl) (Or.inl ⟨by rfl, ?y13⟩) hHeld ?r13
        case y13 => (intro w' hSw; (try dsimp only at hSw); go_simp; try with_reducible rfl)
        try simp only [Act.put, List.setIfInBounds_toArray, List.set_cons_zero, List.set_cons_succ]
        refine wpAnyZ_ready (rs := [17]) (by kernel_rfl) (by simp) ?_
        refine AllReadyZ.last rfl (fun K hK => ?_)
        have d0 : X4.cell? ⟨rb, 2, none⟩ = some v0 := (hB4.cell (p := ⟨rb, 2, none⟩) hrl).trans c2
        have df : X4.frozen? ⟨rb, 2, none⟩ = false := (hB4.frozen (p := ⟨rb, 2, none⟩) hrl).trans (HW.out.thaw 2)
        rw [HV.out] at d0
        go_simp
        obtain ⟨hN4, hF4, hS4⟩ := HW.out.stored hB4 ROW4.out
        have d1 := hN4.cells.2.1
        rw [HM4.out] at hN4 hF4 d1
        rw [eL] at d1
        have HN4 := hid hN4; have HF4 := hid hF4
        refine hK.out _ _ ?_
        clear hK K d0 df hN4 hF4
        refine wpAnyZ_done (by kernel_rfl) (Only.on ?_) _
        go_wp2_with fail
        go_ret2
        exact ⟨by first | rfl | (rw [eL]; rfl) | rw [eL], _, _, HN4.out, hFW0.trans HF4.out (fun _ _ e => e), fun k hk => (hS4 k hk).imp id (fun e => Nat.le_trans hFW0.size e)⟩
    · go_simp
      have src1 : SrcE (W.alloc (.cells #[.int .i64 ((L : Int) + 1), .int .i64 x] 61)).drew (some ⟨W.heap.size, 0, none⟩) [(L + 1, .int .i64 x)] := by
        have := (srcE_one W (L + 1) x).keep (below_drewN _ 1)
        rw [eL] at this; exact this
      have hB1 := below_ad W (.cells #[.int .i64 ((L : Int) + 1), .int .i64 x] 61)
      have hg1 : W.heap.size < (W.alloc (.cells #[.int .i64 ((L : Int) + 1), .int .i64 x] 61)).drew.heap.size := by show W.heap.size < (W.alloc (.cells #[.int .i64 ((L : Int) + 1), .int .i64 x] 61)).heap.size; simp
      generalize (W.alloc (.cells #[.int .i64 ((L : Int) + 1), .int .i64 x] 61)).drew = X1 at *
      refine hK.out _ _ hB1 (fun hHeld => ?_)
      clear hK K
      refine wpAnyZ_ready (rs := [1]) (by kernel_rfl) (by simp) ?_
      refine AllReadyZ.cons rfl (fun K hK => ?_) AllReadyZ.nil
      go_simp
      have row0 : RowE (X1.alloc (.cells #[] 61)) W.heap.size (.slice (some ⟨X1.heap.size, 0, none⟩) 0 0) [] := (rowE_new X1).base hB1.size
      have hbb : Below X1.heap.size X1 (X1.alloc (.cells #[] 61)) := (Below.refl _ _).alloc (Nat.le_refl _) _
      have src0 := src1.keep hbb
      have hB0 := hB1.trans (hbb.mono hB1.size)
      obtain ⟨sb, hsb⟩ : ∃ sb, X1.heap.size = sb := ⟨_, rfl⟩
      rw [hsb] at row0 hg1 ⊢
      generalize X1.alloc (.cells #[] 61) = X2 at *
      clear src1 hB1 hbb
      refine hK.out _ _ hB0 (fun hHeld => ?_)
      clear hK K
      refine wpAnyZ_ready (rs := [6]) (by kernel_rfl) (by simp) ?_
      refine AllReadyZ.cons rfl (fun K hK => ?_) AllReadyZ.nil
      obtain ⟨a2, c2', X3, r2, row, b2, f2⟩ := appendE (cap := cap) 54 row0 (HSRC.out.keep hB0) hN hB0.size (by simp; omega)
      rw [List.nil_append] at r2 row
      have hB := hB0.trans b2
      have src := src0.fr f2 (fun ad had => by cases had; intro e; have e2 : sb = W.heap.size := Option.some.inj e; omega)
      clear row0 b2 f2 src0 hB0
      refine step_append_run (by rfl) _ _ 54 54 (by rfl) _ _ (by rfl) (by rfl) _ _ r2 ?_
      change K (Act.put _ (some 30) _) _
      simp only [Act.put, List.setIfInBounds_toArray, List.set_cons_zero, List.set_cons_succ]
      refine hK.out _ _ hB (fun hHeld => ?_)
      clear hK K r2
      -- both appended: at world X, row, src, hB
      obtain ⟨a4, c4, X4, r4, row4, b4, _⟩ := appendE (cap := 1) 54 row src (alln_one (L + 1) x) hB.size (by simp; omega)
      have e4 : ([(L + 1, Value.int .i64 x)] : List (Nat × Value)).length = 1 := rfl
      rw [e4] at r4
      have hB4 := hB.trans b4
      obtain ⟨m4, hm4⟩ : ∃ m4, (es ++ [(L + 1, Value.int .i64 x)]).length = m4 := ⟨_, rfl⟩
      have ROW4 := hid row4
      rw [hm4] at r4 row4
      have HM4 := hid hm4
      clear hm4 e4 src row b4
      refine wpAnyZ_ready (rs := [14]) (by kernel_rfl) (by simp) ?_
      refine AllReadyZ.cons rfl (fun K hK => ?_) AllReadyZ.nil
      refine step_append_run (by rfl) _ _ 54 54 (by rfl) _ _ (by rfl) (by rfl) _ _ r4 ?_
      change K (Act.put _ (some 38) _) _
      simp only [Act.put, List.setIfInBounds_toArray, List.set_cons_zero, List.set_cons_succ]
      refine hK.out _ _ hB4 (fun hHeld => ?_)
      clear hK K r4
      refine wpAnyZ_ready (rs := [15]) (by kernel_rfl) (by simp) ?_
      refine AllReadyZ.cons rfl (fun K hK => ?_) AllReadyZ.nil
      go_simp
      refine hK.out _ _ hB4 (fun hHeld => ?_)
      clear hK K
      refine takeZ 16 (some 40) (v := ?v14) rfl rfl (by kernel_rfl) (by kernel_rfl) (by kernel_rfl) (by kernel_rfl) (Or.inl ⟨by rfl, ?y14⟩) hHeld ?r14
      case y14 => (intro w' hSw; (try dsimp only at hSw); go_simp; try with_reducible rfl)
      try simp only [Act.put, List.setIfInBounds_toArray, List.set_cons_zero, List.set_cons_succ]
      refine wpAnyZ_ready (rs := [17]) (by kernel_rfl) (by simp) ?_
      refine AllReadyZ.last rfl (fun K hK => ?_)
      have d0 : X4.cell? ⟨rb, 2, none⟩ = some v0 := (hB4.cell (p := ⟨rb, 2, none⟩) hrl).trans c2
      have df : X4.frozen? ⟨rb, 2, none⟩ = false := (hB4.frozen (p := ⟨rb, 2, none⟩) hrl).trans (HW.out.thaw 2)
      rw [HV.out] at d0
      go_simp
      obtain ⟨hN4, hF4, hS4⟩ := HW.out.stored hB4 ROW4.out
      have d1 := hN4.cells.2.1
      rw [HM4.out] at hN4 hF4 d1
      rw [eL] at d1
      have HN4 := hid hN4; have HF4 := hid hF4
      refine hK.out _ _ ?_
      clear hK K d0 df hN4 hF4
      refine wpAnyZ_done (by kernel_rfl) (Only.on ?_) _
      go_wp2_with fail
      go_ret2
      exact ⟨by first | rfl | (rw [eL]; rfl) | rw [eL], _, _, HN4.out, hFW0.trans HF4.out (fun _ _ e => e), fun k hk => (hS4 k hk).imp id (fun e => Nat.le_trans hFW0.size e)⟩
  · skip
    have hel : es.length < 1000 := by omega
    clear hm hf hm1
    go_enter Try.func26, Try.ntmps26
    go_wp2_with fail
    go_quiet (fail)
    go_wp2_with fail
    obtain ⟨hW, hFW⟩ := (H.out.below (below_drewN w nq)).setLast (L + 1)
    have hFW0 : Fr S w ((w.drewN nq).setCell ⟨rb, 1, none⟩ (.int .i64 ((L + 1 : Nat) : Int))) := ((Fr.refl S w).drewN nq).trans hFW (fun _ _ e => e)
    have eL : ((L + 1 : Nat) : Int) = (L : Int) + 1 := by omega
    rw [eL] at hW hFW0
    generalize (w.drewN nq).setCell ⟨rb, 1, none⟩ (.int .i64 ((L : Int) + 1)) = W at *
    obtain ⟨c0, c1, c2⟩ := hW.cells
    rw [eL] at c1
    obtain ⟨v0, hv0⟩ : ∃ v0, Value.slice a es.length cap = v0 := ⟨_, rfl⟩
    have hrl : rb < W.heap.size := hW.lt rb hW.inb
    obtain ⟨a', cap', hvv, _, _, hsrc, _⟩ := hW.row.form
    cases hvv
    have HW := hid hW; have HSRC := hid hsrc
    have k1' : ∀ w', Below W.heap.size W w' → w'.cell? ⟨rb, 1, none⟩ = some (.int .i64 ((L : Int) + 1)) := fun w' hb => (hb.cell (p := ⟨rb, 1, none⟩) hrl).trans c1
    have k2' : ∀ w', Below W.heap.size W w' → w'.cell? ⟨rb, 2, none⟩ = some (.slice a es.length cap) := fun w' hb => (hb.cell (p := ⟨rb, 2, none⟩) hrl).trans c2
    have HV := hid hv0.symm
    rw [hv0] at c2
    clear hW hsrc hFW hv0 H c0 fz k1 k2
    refine region_Z (fun w' => Below W.heap.size W w') 17 18 rfl (by kernel_rfl) (below_drewN W 1) ?_
    intro hHeld
    refine takeZ 0 (some 24) (v := ?v15) rfl rfl (by kernel_rfl) (by kernel_rfl) (by kernel_rfl) (by kernel_rfl) (Or.inl ⟨by rfl, ?y15⟩) hHeld ?r15
    case y15 => (intro w' hSw; (try dsimp only at hSw); go_simp; try with_reducible rfl)
    try simp only [Act.put, List.setIfInBounds_toArray, List.set_cons_zero, List.set_cons_succ]
    refine takeZ 2 (some 26) (v := ?v16) rfl rfl (by kernel_rfl) (by kernel_rfl) (by kernel_rfl) (by kernel_rfl) (Or.inl ⟨by rfl, ?y16⟩) hHeld ?r16
    case y16 => (intro w' hSw; (try dsimp only at hSw); go_simp; try with_reducible rfl)
    try simp only [Act.put, List.setIfInBounds_toArray, List.set_cons_zero, List.set_cons_succ]
    refine takeZ 3 (some 27) (v := ?v17) rfl rfl (by kernel_rfl) (by kernel_rfl) (by kernel_rfl) (by kernel_rfl) (Or.inl ⟨by rfl, ?y17⟩) hHeld ?r17
    case y17 => (intro w' hSw; (try dsimp only at hSw); go_simp; try with_reducible rfl)
    try simp only [Act.put, List.setIfInBounds_toArray, List.set_cons_zero, List.set_cons_succ]
    refine takeZ 4 (some 28) (v := ?v18) rfl rfl (by kernel_rfl) (by kernel_rfl) (by kernel_rfl) (by kernel_rfl) (Or.inl ⟨by rfl, ?y18⟩) hHeld ?r18
    case y18 => (intro w' hSw; (try dsimp only at hSw); go_simp; try with_reducible rfl)
    try simp only [Act.put, List.setIfInBounds_toArray, List.set_cons_zero, List.set_cons_succ]
    refine takeZ 5 (some 29) (v := ?v19) rfl rfl (by kernel_rfl) (by kernel_rfl) (by kernel_rfl) (by kernel_rfl) (Or.inl ⟨by rfl, ?y19⟩) hHeld ?r19
    case y19 => (intro w' hSw; (try dsimp only at hSw); go_simp; try with_reducible rfl)
    try simp only [Act.put, List.setIfInBounds_toArray, List.set_cons_zero, List.set_cons_succ]
    refine takeZ 7 (some 31) (v := ?v20) rfl rfl (by kernel_rfl) (by kernel_rfl) (by kernel_rfl) (by kernel_rfl) (Or.inl ⟨by rfl, ?y20⟩) hHeld ?r20
    case y20 => (intro w' hSw; (try dsimp only at hSw); go_simp; try with_reducible rfl)
    try simp only [Act.put, List.setIfInBounds_toArray, List.set_cons_zero, List.set_cons_succ]
    refine takeZ 8 (some 32) (v := ?v21) rfl rfl (by kernel_rfl) (by kernel_rfl) (by kernel_rfl) (by kernel_rfl) (Or.inl ⟨by rfl, ?y21⟩) hHeld ?r21
    case y21 => (intro w' hSw; (try dsimp only at hSw); go_simp; try with_reducible rfl)
    try simp only [Act.put, List.setIfInBounds_toArray, List.set_cons_zero, List.set_cons_succ]
    refine takeZ 9 (some 33) (v := ?v22) rfl rfl (by kernel_rfl) (by kernel_rfl) (by kernel_rfl) (by kernel_rfl) (Or.inl ⟨by rfl, ?y22⟩) hHeld ?r22
    case y22 => (intro w' hSw; (try dsimp only at hSw); go_simp; try with_reducible rfl)
    try simp only [Act.put, List.setIfInBounds_toArray, List.set_cons_zero, List.set_cons_succ]
    refine takeZ 10 (some 34) (v := ?v23) rfl rfl (by kernel_rfl) (by kernel_rfl) (by kernel_rfl) (by kernel_rfl) (Or.inl ⟨by rfl, ?y23⟩) hHeld ?r23
    case y23 => (intro w' hSw; (try dsimp only at hSw); go_simp; try with_reducible rfl)
    try simp only [Act.put, List.setIfInBounds_toArray, List.set_cons_zero, List.set_cons_succ]
    refine takeZ 11 (some 35) (v := ?v24) rfl rfl (by kernel_rfl) (by kernel_rfl) (by kernel_rfl) (by kernel_rfl) (Or.inl ⟨by rfl, ?y24⟩) hHeld ?r24
    case y24 => (intro w' hSw; (try dsimp only at hSw); go_simp; try with_reducible rfl)
    try simp only [Act.put, List.setIfInBounds_toArray, List.set_cons_zero, List.set_cons_succ]
    refine takeZ 12 (some 36) (v := ?v25) rfl rfl (by kernel_rfl) (by kernel_rfl) (by kernel_rfl) (by kernel_rfl) (Or.inl ⟨by rfl, ?y25⟩) hHeld ?r25
    case y25 => (intro w' hSw; (try dsimp only at hSw); go_simp; try with_reducible rfl)
    try simp only [Act.put, List.setIfInBounds_toArray, List.set_cons_zero, List.set_cons_succ]
    have hN := HN.out
    refine wpAnyZ_ready (rs := [1, 13]) (by kernel_rfl) (by simp) ?_
    refine AllReadyZ.cons rfl (fun K hK => ?_) (AllReadyZ.cons rfl (fun K hK => ?_) AllReadyZ.nil)
    · go_simp
      have row1 : RowE (W.alloc (.cells #[] 61)).drew W.heap.size (.slice (some ⟨W.heap.size, 0, none⟩) 0 0) [] := (rowE_new W).below (below_drewN _ 1)
      have hB1 := below_ad W (.cells #[] 61)
      have hg1 : W.heap.size < (W.alloc (.cells #[] 61)).drew.heap.size := by show W.heap.size < (W.alloc (.cells #[] 61)).heap.size; simp
      generalize (W.alloc (.cells #[] 61)).drew = X1 at *
      refine hK.out _ _ hB1 (fun hHeld => ?_)
      clear hK K
      refine wpAnyZ_ready (rs := [6, 13]) (by kernel_rfl) (by simp) ?_
      refine AllReadyZ.cons rfl (fun K hK => ?_) (AllReadyZ.cons rfl (fun K hK => ?_) AllReadyZ.nil)
      · obtain ⟨a2, c2', X2, r2, row2, b2, _⟩ := appendE (cap := cap) 54 row1 (HSRC.out.keep hB1) hN hB1.size (by simp; omega)
        rw [List.nil_append] at r2 row2
        have hB2 := hB1.trans b2
        clear row1 b2
        refine step_append_run (by rfl) _ _ 54 54 (by rfl) _ _ (by rfl) (by rfl) _ _ r2 ?_
        change K (Act.put _ (some 30) _) _
        simp only [Act.put, List.setIfInBounds_toArray, List.set_cons_zero, List.set_cons_succ]
        refine hK.out _ _ hB2 (fun hHeld => ?_)
        clear hK K r2
        refine wpAnyZ_ready (rs := [13]) (by kernel_rfl) (by simp) ?_
        refine AllReadyZ.cons rfl (fun K hK => ?_) AllReadyZ.nil
        go_simp
        have src := srcE_one X2 (L + 1) x
        rw [eL] at src
        have hbb : Below X2.heap.size X2 (X2.alloc (.cells #[.int .i64 ((L : Int) + 1), .int .i64 x] 61)) := (Below.refl _ _).alloc (Nat.le_refl _) _
        have row := row2.below hbb
        have hB := hB2.trans (hbb.mono hB2.size)
        obtain ⟨sb, hsb⟩ : ∃ sb, X2.heap.size = sb := ⟨_, rfl⟩
        rw [hsb] at src ⊢
        generalize X2.alloc (.cells #[.int .i64 ((L : Int) + 1), .int .i64 x] 61) = X3 at *
        clear row2 hB2 hbb
        refine hK.out _ _ hB (fun hHeld => ?_)
        clear hK K
        -- both appended: at world X, row, src, hB
        obtain ⟨a4, c4, X4, r4, row4, b4, _⟩ := appendE (cap := 1) 54 row src (alln_one (L + 1) x) hB.size (by simp; omega)
        have e4 : ([(L + 1, Value.int .i64 x)] : List (Nat × Value)).length = 1 := rfl
        rw [e4] at r4
        have hB4 := hB.trans b4
        obtain ⟨m4, hm4⟩ : ∃ m4, (es ++ [(L + 1, Value.int .i64 x)]).length = m4 := ⟨_, rfl⟩
        have ROW4 := hid row4
        rw [hm4] at r4 row4
        have HM4 := hid hm4
        clear hm4 e4 src row b4
        refine wpAnyZ_ready (rs := [14]) (by kernel_rfl) (by simp) ?_
        refine AllReadyZ.cons rfl (fun K hK => ?_) AllReadyZ.nil
        refine step_append_run (by rfl) _ _ 54 54 (by rfl) _ _ (by rfl) (by rfl) _ _ r4 ?_
        change K (Act.put _ (some 38) _) _
        simp only [Act.put, List.setIfInBounds_toArray, List.set_cons_zero, List.set_cons_succ]
        refine hK.out _ _ hB4 (fun hHeld => ?_)
        clear hK K r4
        refine wpAnyZ_ready (rs := [15]) (by kernel_rfl) (by simp) ?_
        refine AllReadyZ.cons rfl (fun K hK => ?_) AllReadyZ.nil
        go_simp
        refine hK.out _ _ hB4 (fun hHeld => ?_)
        clear hK K
        refine takeZ 16 (some 40) (v := ?v26) rfl rfl (by kernel_rfl) (by kernel_rfl) (by kernel_rfl) (by kernel_rfl) (Or.inl ⟨by rfl, ?y26⟩) hHeld ?r26
        case y26 => (intro w' hSw; (try dsimp only at hSw); go_simp; try with_reducible rfl)
        try simp only [Act.put, List.setIfInBounds_toArray, List.set_cons_zero, List.set_cons_succ]
        refine wpAnyZ_ready (rs := [17]) (by kernel_rfl) (by simp) ?_
        refine AllReadyZ.last rfl (fun K hK => ?_)
        have d0 : X4.cell? ⟨rb, 2, none⟩ = some v0 := (hB4.cell (p := ⟨rb, 2, none⟩) hrl).trans c2
        have df : X4.frozen? ⟨rb, 2, none⟩ = false := (hB4.frozen (p := ⟨rb, 2, none⟩) hrl).trans (HW.out.thaw 2)
        rw [HV.out] at d0
        go_simp
        obtain ⟨hN4, hF4, hS4⟩ := HW.out.stored hB4 ROW4.out
        have d1 := hN4.cells.2.1
        rw [HM4.out] at hN4 hF4 d1
        rw [eL] at d1
        have HN4 := hid hN4; have HF4 := hid hF4
        refine hK.out _ _ ?_
        clear hK K d0 df hN4 hF4
        refine wpAnyZ_done (by kernel_rfl) (Only.on ?_) _
        go_wp2_with fail
        go_ret2
        exact ⟨by first | rfl | (rw [eL]; rfl) | rw [eL], _, _, HN4.out, hFW0.trans HF4.out (fun _ _ e => e), fun k hk => (hS4 k hk).imp id (fun e => Nat.le_trans hFW0.size e)⟩
      · go_simp
        have src0 := srcE_one X1 (L + 1) x
        rw [eL] at src0
        have hbb : Below X1.heap.size X1 (X1.alloc (.cells #[.int .i64 ((L : Int) + 1), .int .i64 x] 61)) := (Below.refl _ _).alloc (Nat.le_refl _) _
        have row0 := row1.below hbb
        have hB0 := hB1.trans (hbb.mono hB1.size)
        obtain ⟨sb, hsb⟩ : ∃ sb, X1.heap.size = sb := ⟨_, rfl⟩
        rw [hsb] at src0 hg1 ⊢
        generalize X1.alloc (.cells #[.int .i64 ((L : Int) + 1), .int .i64 x] 61) = X2 at *
        clear row1 hB1 hbb
        refine hK.out _ _ hB0 (fun hHeld => ?_)
        clear hK K
        refine wpAnyZ_ready (rs := [6]) (by kernel_rfl) (by simp) ?_
        refine AllReadyZ.cons rfl (fun K hK => ?_) AllReadyZ.nil
        obtain ⟨a2, c2', X3, r2, row, b2, f2⟩ := appendE (cap := cap) 54 row0 (HSRC.out.keep hB0) hN hB0.size (by simp; omega)
        rw [List.nil_append] at r2 row
        have hB := hB0.trans b2
        have src := src0.fr f2 (fun ad had => by cases had; intro e; have e2 : W.heap.size = sb := Option.some.inj e; omega)
        clear row0 b2 f2 src0 hB0
        refine step_append_run (by rfl) _ _ 54 54 (by rfl) _ _ (by rfl) (by rfl) _ _ r2 ?_
        change K (Act.put _ (some 30) _) _
        simp only [Act.put, List.setIfInBounds_toArray, List.set_cons_zero, List.set_cons_succ]
        refine hK.out _ _ hB (fun hHeld => ?_)
        clear hK K r2
        -- both appended: at world X, row, src, hB
        obtain ⟨a4, c4, X4, r4, row4, b4, _⟩ := appendE (cap := 1) 54 row src (alln_one (L + 1) x) hB.size (by simp; omega)
        have e4 : ([(L + 1, Value.int .i64 x)] : List (Nat × Value)).length = 1 := rfl
        rw [e4] at r4
        have hB4 := hB.trans b4
        obtain ⟨m4, hm4⟩ : ∃ m4, (es ++ [(L + 1, Value.int .i64 x)]).length = m4 := ⟨_, rfl⟩
        have ROW4 := hid row4
        rw [hm4] at r4 row4
        have HM4 := hid hm4
        clear hm4 e4 src row b4
        refine wpAnyZ_ready (rs := [14]) (by kernel_rfl) (by simp) ?_
        refine AllReadyZ.cons rfl (fun K hK => ?_) AllReadyZ.nil
        refine step_append_run (by rfl) _ _ 54 54 (by rfl) _ _ (by rfl) (by rfl) _ _ r4 ?_
        change K (Act.put _ (some 38) _) _
        simp only [Act.put, List.setIfInBounds_toArray, List.set_cons_zero, List.set_cons_succ]
        refine hK.out _ _ hB4 (fun hHeld => ?_)
        clear hK K r4
        refine wpAnyZ_ready (rs := [15]) (by kernel_rfl) (by simp) ?_
        refine AllReadyZ.cons rfl (fun K hK => ?_) AllReadyZ.nil
        go_simp
        refine hK.out _ _ hB4 (fun hHeld => ?_)
        clear hK K
        refine takeZ 16 (some 40) (v := ?v27) rfl rfl (by kernel_rfl) (by kernel_rfl) (by kernel_rfl) (by kernel_rfl) (Or.inl ⟨by rfl, ?y27⟩) hHeld ?r27
        case y27 => (intro w' hSw; (try dsimp only at hSw); go_simp; try with_reducible rfl)
        try simp only [Act.put, List.setIfInBounds_toArray, List.set_cons_zero, List.set_cons_succ]
        refine wpAnyZ_ready (rs := [17]) (by kernel_rfl) (by simp) ?_
        refine AllReadyZ.last rfl (fun K hK => ?_)
        have d0 : X4.cell? ⟨rb, 2, none⟩ = some v0 := (hB4.cell (p := ⟨rb, 2, none⟩) hrl).trans c2
        have df : X4.frozen? ⟨rb, 2, none⟩ = false := (hB4.frozen (p := ⟨rb, 2, none⟩) hrl).trans (HW.out.thaw 2)
        rw [HV.out] at d0
        go_simp
        obtain ⟨hN4, hF4, hS4⟩ := HW.out.stored hB4 ROW4.out
        have d1 := hN4.cells.2.1
        rw [HM4.out] at hN4 hF4 d1
        rw [eL] at d1
        have HN4 := hid hN4; have HF4 := hid hF4
        refine hK.out _ _ ?_
        clear hK K d0 df hN4 hF4
        refine wpAnyZ_done (by kernel_rfl) (Only.on ?_) _
        go_wp2_with fail
        go_ret2
        exact ⟨by first | rfl | (rw [eL]; rfl) | rw [eL], _, _, HN4.out, hFW0.trans HF4.out (fun _ _ e => e), fun k hk => (hS4 k hk).imp id (fun e => Nat.le_trans hFW0.size e)⟩
    · go_simp
      have src1 : SrcE (W.alloc (.cells #[.int .i64 ((L : Int) + 1), .int .i64 x] 61)).drew (some ⟨W.heap.size, 0, none⟩) [(L + 1, .int .i64 x)] := by
        have := (srcE_one W (L + 1) x).keep (below_drewN _ 1)
        rw [eL] at this; exact this
      have hB1 := below_ad W (.cells #[.int .i64 ((L : Int) + 1), .int .i64 x] 61)
      have hg1 : W.heap.size < (W.alloc (.cells #[.int .i64 ((L : Int) + 1), .int .i64 x] 61)).drew.heap.size := by show W.heap.size < (W.alloc (.cells #[.int .i64 ((L : Int) + 1), .int .i64 x] 61)).heap.size; simp
      generalize (W.alloc (.cells #[.int .i64 ((L : Int) + 1), .int .i64 x] 61)).drew = X1 at *
      refine hK.out _ _ hB1 (fun hHeld => ?_)
      clear hK K
      refine wpAnyZ_ready (rs := [1]) (by kernel_rfl) (by simp) ?_
      refine AllReadyZ.cons rfl (fun K hK => ?_) AllReadyZ.nil
      go_simp
      have row0 : RowE (X1.alloc (.cells #[] 61)) W.heap.size (.slice (some ⟨X1.heap.size, 0, none⟩) 0 0) [] := (rowE_new X1).base hB1.size
      have hbb : Below X1.heap.size X1 (X1.alloc (.cells #[] 61)) := (Below.refl _ _).alloc (Nat.le_refl _) _
      have src0 := src1.keep hbb
      have hB0 := hB1.trans (hbb.mono hB1.size)
      obtain ⟨sb, hsb⟩ : ∃ sb, X1.heap.size = sb := ⟨_, rfl⟩
      rw [hsb] at row0 hg1 ⊢
      generalize X1.alloc (.cells #[] 61) = X2 at *
      clear src1 hB1 hbb
      refine hK.out _ _ hB0 (fun hHeld => ?_)
      clear hK K
      refine wpAnyZ_ready (rs := [6]) (by kernel_rfl) (by simp) ?_
      refine AllReadyZ.cons rfl (fun K hK => ?_) AllReadyZ.nil
      obtain ⟨a2, c2', X3, r2, row, b2, f2⟩ := appendE (cap := cap) 54 row0 (HSRC.out.keep hB0) hN hB0.size (by simp; omega)
      rw [List.nil_append] at r2 row
      have hB := hB0.trans b2
      have src := src0.fr f2 (fun ad had => by cases had; intro e; have e2 : sb = W.heap.size := Option.some.inj e; omega)
      clear row0 b2 f2 src0 hB0
      refine step_append_run (by rfl) _ _ 54 54 (by rfl) _ _ (by rfl) (by rfl) _ _ r2 ?_
      change K (Act.put _ (some 30) _) _
      simp only [Act.put, List.setIfInBounds_toArray, List.set_cons_zero, List.set_cons_succ]
      refine hK.out _ _ hB (fun hHeld => ?_)
      clear hK K r2
      -- both appended: at world X, row, src, hB
      obtain ⟨a4, c4, X4, r4, row4, b4, _⟩ := appendE (cap := 1) 54 row src (alln_one (L + 1) x) hB.size (by simp; omega)
      have e4 : ([(L + 1, Value.int .i64 x)] : List (Nat × Value)).length = 1 := rfl
      rw [e4] at r4
      have hB4 := hB.trans b4
      obtain ⟨m4, hm4⟩ : ∃ m4, (es ++ [(L + 1, Value.int .i64 x)]).length = m4 := ⟨_, rfl⟩
      have ROW4 := hid row4
      rw [hm4] at r4 row4
      have HM4 := hid hm4
      clear hm4 e4 src row b4
      refine wpAnyZ_ready (rs := [14]) (by kernel_rfl) (by simp) ?_
      refine AllReadyZ.cons rfl (fun K hK => ?_) AllReadyZ.nil
      refine step_append_run (by rfl) _ _ 54 54 (by rfl) _ _ (by rfl) (by rfl) _ _ r4 ?_
      change K (Act.put _ (some 38) _) _
      simp only [Act.put, List.setIfInBounds_toArray, List.set_cons_zero, List.set_cons_succ]
      refine hK.out _ _ hB4 (fun hHeld => ?_)
      clear hK K r4
      refine wpAnyZ_ready (rs := [15]) (by kernel_rfl) (by simp) ?_
      refine AllReadyZ.cons rfl (fun K hK => ?_) AllReadyZ.nil
      go_simp
      refine hK.out _ _ hB4 (fun hHeld => ?_)
      clear hK K
      refine takeZ 16 (some 40) (v := ?v28) rfl rfl (by kernel_rfl) (by kernel_rfl) (by kernel_rfl) (by kernel_rfl) (Or.inl ⟨by rfl, ?y28⟩) hHeld ?r28
      case y28 => (intro w' hSw; (try dsimp only at hSw); go_simp; try with_reducible rfl)
      try simp only [Act.put, List.setIfInBounds_toArray, List.set_cons_zero, List.set_cons_succ]
      refine wpAnyZ_ready (rs := [17]) (by kernel_rfl) (by simp) ?_
      refine AllReadyZ.last rfl (fun K hK => ?_)
      have d0 : X4.cell? ⟨rb, 2, none⟩ = some v0 := (hB4.cell (p := ⟨rb, 2, none⟩) hrl).trans c2
      have df : X4.frozen? ⟨rb, 2, none⟩ = false := (hB4.frozen (p := ⟨rb, 2, none⟩) hrl).trans (HW.out.thaw 2)
      rw [HV.out] at d0
      go_simp
      obtain ⟨hN4, hF4, hS4⟩ := HW.out.stored hB4 ROW4.out
      have d1 := hN4.cells.2.1
      rw [HM4.out] at hN4 hF4 d1
      rw [eL] at d1
      have HN4 := hid hN4; have HF4 := hid hF4
      refine hK.out _ _ ?_
      clear hK K d0 df hN4 hF4
      refine wpAnyZ_done (by kernel_rfl) (Only.on ?_) _
      go_wp2_with fail
      go_ret2
      exact ⟨by first | rfl | (rw [eL]; rfl) | rw [eL], _, _, HN4.out, hFW0.trans HF4.out (fun _ _ e => e), fun k hk => (hS4 k hk).imp id (fun e => Nat.le_trans hFW0.size e)⟩
end Go.Proofs.Ytechkkidebkadaa
