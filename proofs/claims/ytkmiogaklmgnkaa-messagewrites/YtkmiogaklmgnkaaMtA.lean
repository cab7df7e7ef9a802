/- Layer 5 (message): are two rows of messages the same? -/
import Derived.Test.YtkmiogaklmgnkaaMsI2
import Derived.Test.YtkmiogaklmgnkaaMsL
namespace Go.Proofs.Ytkmiogaklmgnkaa
open Go.RowKit Go.Shelf
set_option linter.unusedVariables false
set_option linter.unusedSimpArgs false
attribute [local go_sem ↓] Go.wp_at_zero Go.wp_at_succ

theorem yields_at {ops : Array Oper} {S : World → Prop} {o : Oper} {a : Act} {x : Operand} {b off : Nat} {cs : Array Value} (hw : Region.wanted o (yielded ops a.tmps) = true) (ho : o.op = .load 40 x) (hx : a.eval x = .pointer (some ⟨b, off, none⟩)) (hc : cs.size = 23) (hS : ∀ w, S w → ∀ j v, cs[j]? = some v → w.cell? ⟨b, off + j, none⟩ = some v) : YieldsIf Try.prog ops S o (.agg cs) a := by
  refine .inl ⟨hw, fun w h => ?_⟩
  unfold execOp
  simp only [ho, hx, Instr.loadAt, Instr.sureAddr, Sem.run_bind, Sem.run_pure, Result.andThen_ok, run_load_at w b off cs hc (hS w h)]
theorem same_mg {xs ys : List Msg} (hl : xs.length = ys.length) : xs = ys ↔ ∀ k, k < xs.length → mg xs k = mg ys k := by
  constructor
  · intro e k _; rw [e]
  · intro h
    apply List.ext_getElem hl
    intro k h1 h2
    have := h k h1
    unfold mg at this
    rw [List.getD_eq_getElem?_getD, List.getD_eq_getElem?_getD, List.getElem?_eq_getElem h1, List.getElem?_eq_getElem h2] at this
    exact this
set_option maxRecDepth 100000 in
set_option maxHeartbeats 4000000 in
theorem sameRowF {w : World} {p p' : Option Addr} {c c' : Nat} {xs ys : List Msg} {q q' : Nat → Option Addr × Nat} (hx : ArgM w p c xs q) (hy : ArgM w p' c' ys q') :
    Calls Try.prog 20 #[.slice p xs.length c, .slice p' ys.length c'] w fun e w' => e = .returned (.bool (decide (xs = ys))) ∧ Below w.heap.size w w' := by
  have hle := hx.le; have hmost := hx.most; have hle2 := hy.le; have hmost2 := hy.most
  unfold maxLen at hmost hmost2
  by_cases hn : xs.length = ys.length
  rotate_left
  · have hd : decide (xs = ys) = false := decide_eq_false (fun e => hn (by rw [e]))
    rw [hd]
    have hne : ((xs.length : Int) != (ys.length : Int)) = true := by simp; omega
    go_enter Try.func20, Try.ntmps20
    go_wp2_with fail
    go_ret
    exact ⟨rfl, Below.refl _ _⟩
  have hEQ := same_mg hn
  have HY := hid hy; have HX := hid hx; have HEQ := hid hEQ
  obtain ⟨n, hnx⟩ : ∃ n, xs.length = n := ⟨_, rfl⟩
  have hny : ys.length = n := by omega
  rw [hnx] at hle
  rw [hny] at hle2
  rw [hnx, hny]
  have HNX := hid hnx; have HNY := hid hny
  have hn0 : n ≤ 9223372036854775807 := by omega
  clear hx hy hEQ hn hnx hny
  go_enter Try.func20, Try.ntmps20
  go_wp2_with fail
  go_loopw [5] (fun i wr => ∃ (j : Nat), i = .int .i64 (j : Int) ∧ j ≤ n ∧ (∀ k, k < j → mg xs k = mg ys k) ∧ Below w.heap.size w wr) (fun i _ => n - (intOf i).toNat)
  case atStart => exact ⟨0, rfl, Nat.zero_le _, fun k hk => by omega, Below.refl _ _⟩
  case round =>
    obtain ⟨j, rfl, hj, hall, hb⟩ := hrel
    by_cases hlt : j < n
    · have hA1 := HX.out.keep hb
      have hA2 := HY.out.keep hb
      obtain ⟨b1, o1, rfl, hbl1, hc1⟩ := hA1.at (i := j) (by rw [HNX.out]; exact hlt)
      obtain ⟨b2, o2, rfl, hbl2, hc2⟩ := hA2.at (i := j) (by rw [HNY.out]; exact hlt)
      have hcj1 := hc1 j (by rw [HNX.out]; exact hlt)
      have hcj2 := hc2 j (by rw [HNY.out]; exact hlt)
      have hR : ∀ u, Below wr.heap.size wr u → _ := fun u hu => refSameF (w := u) ((hA1.bytes j (by rw [HNX.out]; exact hlt)).keep hu) ((hA2.bytes j (by rw [HNY.out]; exact hlt)).keep hu) (hA1.ok j (by rw [HNX.out]; exact hlt)).byte (hA2.ok j (by rw [HNY.out]; exact hlt)).byte
      have hm1 : msgC (mg xs j) (.slice (q j).1 (mg xs j).bytes.length (q j).2) = mgC xs q j := rfl
      have hm2 : msgC (mg ys j) (.slice (q' j).1 (mg ys j).bytes.length (q' j).2) = mgC ys q' j := rfl
      rw [hm1, hm2] at hR
      have hsz1 : (mgC xs q j).size = 23 := mgC_size xs q j
      have hsz2 : (mgC ys q' j).size = 23 := mgC_size ys q' j
      generalize mgC xs q j = cs1 at *
      generalize mgC ys q' j = cs2 at *
      have Hall := hid hall; have HB := hid hb; have HC1 := hid hcj1; have HC2 := hid hcj2
      have i1 : (j : Int) < (n : Int) := by omega
      clear hA1 hA2 hc1 hc2 hcj1 hcj2 hb hall hm1 hm2
      by_cases hr : mg xs j = mg ys j
      · rw [decide_eq_true hr] at hR
        have HR := hid hR
        have HRR := hid hr
        clear hR hr
        go_wp2_with fail
        refine region_held (fun u => Below wr.heap.size wr u) 10 rfl (by kernel_rfl) (below_drewN wr 1) ?_
        intro hHeld
        refine takeO 0 (some 17) (v := ?v1) rfl rfl (by kernel_rfl) (by kernel_rfl) (by kernel_rfl) (Or.inl ⟨by rfl, ?y1⟩) hHeld ?r1
        case y1 => (intro w' hSw; (try dsimp only at hSw); go_simp; try with_reducible rfl)
        try simp only [Act.put, List.setIfInBounds_toArray, List.set_cons_zero, List.set_cons_succ]
        refine takeO 1 (some 18) (v := ?v2) rfl rfl (by kernel_rfl) (by kernel_rfl) (by kernel_rfl) (Or.inl ⟨by rfl, ?y2⟩) hHeld ?r2
        case y2 => (intro w' hSw; (try dsimp only at hSw); go_simp; try with_reducible rfl)
        try simp only [Act.put, List.setIfInBounds_toArray, List.set_cons_zero, List.set_cons_succ]
        refine takeO 2 (some 19) (v := ?v3) rfl rfl (by kernel_rfl) (by kernel_rfl) (by kernel_rfl) (Or.inl ⟨by rfl, ?y3⟩) hHeld ?r3
        case y3 => (intro w' hSw; (try dsimp only at hSw); go_simp; try with_reducible rfl)
        try simp only [Act.put, List.setIfInBounds_toArray, List.set_cons_zero, List.set_cons_succ]
        refine takeO 3 (some 20) rfl rfl (by kernel_rfl) (by kernel_rfl) (by kernel_rfl) (yields_at (b := b1) (off := o1 + j * 23) (cs := cs1) (by rfl) rfl rfl hsz1 (fun w' hSw i v hv => (RowKit.Below.cell (p := ⟨b1, _, none⟩) hSw hbl1).trans (HC1.out i v hv))) hHeld ?_
        try simp only [Act.put, List.setIfInBounds_toArray, List.set_cons_zero, List.set_cons_succ]
        refine takeO 4 (some 21) (v := ?v4) rfl rfl (by kernel_rfl) (by kernel_rfl) (by kernel_rfl) (Or.inl ⟨by rfl, ?y4⟩) hHeld ?r4
        case y4 => (intro w' hSw; (try dsimp only at hSw); go_simp; try with_reducible rfl)
        try simp only [Act.put, List.setIfInBounds_toArray, List.set_cons_zero, List.set_cons_succ]
        refine takeO 5 (some 22) (v := ?v5) rfl rfl (by kernel_rfl) (by kernel_rfl) (by kernel_rfl) (Or.inl ⟨by rfl, ?y5⟩) hHeld ?r5
        case y5 => (intro w' hSw; (try dsimp only at hSw); go_simp; try with_reducible rfl)
        try simp only [Act.put, List.setIfInBounds_toArray, List.set_cons_zero, List.set_cons_succ]
        refine takeO 6 (some 23) (v := ?v6) rfl rfl (by kernel_rfl) (by kernel_rfl) (by kernel_rfl) (Or.inl ⟨by rfl, ?y6⟩) hHeld ?r6
        case y6 => (intro w' hSw; (try dsimp only at hSw); go_simp; try with_reducible rfl)
        try simp only [Act.put, List.setIfInBounds_toArray, List.set_cons_zero, List.set_cons_succ]
        refine takeO 7 (some 24) rfl rfl (by kernel_rfl) (by kernel_rfl) (by kernel_rfl) (yields_at (b := b2) (off := o2 + j * 23) (cs := cs2) (by rfl) rfl rfl hsz2 (fun w' hSw i v hv => (RowKit.Below.cell (p := ⟨b2, _, none⟩) hSw hbl2).trans (HC2.out i v hv))) hHeld ?_
        try simp only [Act.put, List.setIfInBounds_toArray, List.set_cons_zero, List.set_cons_succ]
        refine wpAnyH_ready (rs := [8]) (by kernel_rfl) (by simp) ?_
        refine AllReadyH.cons rfl (fun K hK => ?_) AllReadyH.nil
        go_simp
        refine (HR.out wr.drew (below_drewN wr 1)).mono ?_
        rintro e2 u2 ⟨rfl, hb2⟩
        dsimp only
        have hb3 : Below wr.heap.size wr u2 := btrans (below_drewN wr 1) hb2
        have HB3 := hid (btrans HB.out hb3)
        refine hK.out _ _ hb3 (fun hHeld => ?_)
        clear hK K hb2
        refine takeO 9 (some 26) (v := ?v7) rfl rfl (by kernel_rfl) (by kernel_rfl) (by kernel_rfl) (Or.inl ⟨by rfl, ?y7⟩) hHeld ?r7
        case y7 => (intro w' hSw; (try dsimp only at hSw); go_simp; try with_reducible rfl)
        try simp only [Act.put, List.setIfInBounds_toArray, List.set_cons_zero, List.set_cons_succ]
        refine wpAnyH_done (by kernel_rfl) (Only.on ?_) _
        clear hHeld HR hb3 HC1 HC2
        go_wp2_with fail
        go_roundw
        case rel => exact ⟨j + 1, by go_num, by omega, fun k hk => by
          by_cases e : k = j
          · rw [e]; exact HRR.out
          · exact Hall.out k (by omega), HB3.out⟩
        case measure => simp [intOf]; omega
      · rw [decide_eq_false hr] at hR
        have HR := hid hR
        have hd : decide (xs = ys) = false := decide_eq_false (fun e => hr (by rw [e]))
        clear hR hr
        go_wp2_with fail
        refine region_held (fun u => Below wr.heap.size wr u) 10 rfl (by kernel_rfl) (below_drewN wr 1) ?_
        intro hHeld
        refine takeO 0 (some 17) (v := ?v8) rfl rfl (by kernel_rfl) (by kernel_rfl) (by kernel_rfl) (Or.inl ⟨by rfl, ?y8⟩) hHeld ?r8
        case y8 => (intro w' hSw; (try dsimp only at hSw); go_simp; try with_reducible rfl)
        try simp only [Act.put, List.setIfInBounds_toArray, List.set_cons_zero, List.set_cons_succ]
        refine takeO 1 (some 18) (v := ?v9) rfl rfl (by kernel_rfl) (by kernel_rfl) (by kernel_rfl) (Or.inl ⟨by rfl, ?y9⟩) hHeld ?r9
        case y9 => (intro w' hSw; (try dsimp only at hSw); go_simp; try with_reducible rfl)
        try simp only [Act.put, List.setIfInBounds_toArray, List.set_cons_zero, List.set_cons_succ]
        refine takeO 2 (some 19) (v := ?v10) rfl rfl (by kernel_rfl) (by kernel_rfl) (by kernel_rfl) (Or.inl ⟨by rfl, ?y10⟩) hHeld ?r10
        case y10 => (intro w' hSw; (try dsimp only at hSw); go_simp; try with_reducible rfl)
        try simp only [Act.put, List.setIfInBounds_toArray, List.set_cons_zero, List.set_cons_succ]
        refine takeO 3 (some 20) rfl rfl (by kernel_rfl) (by kernel_rfl) (by kernel_rfl) (yields_at (b := b1) (off := o1 + j * 23) (cs := cs1) (by rfl) rfl rfl hsz1 (fun w' hSw i v hv => (RowKit.Below.cell (p := ⟨b1, _, none⟩) hSw hbl1).trans (HC1.out i v hv))) hHeld ?_
        try simp only [Act.put, List.setIfInBounds_toArray, List.set_cons_zero, List.set_cons_succ]
        refine takeO 4 (some 21) (v := ?v11) rfl rfl (by kernel_rfl) (by kernel_rfl) (by kernel_rfl) (Or.inl ⟨by rfl, ?y11⟩) hHeld ?r11
        case y11 => (intro w' hSw; (try dsimp only at hSw); go_simp; try with_reducible rfl)
        try simp only [Act.put, List.setIfInBounds_toArray, List.set_cons_zero, List.set_cons_succ]
        refine takeO 5 (some 22) (v := ?v12) rfl rfl (by kernel_rfl) (by kernel_rfl) (by kernel_rfl) (Or.inl ⟨by rfl, ?y12⟩) hHeld ?r12
        case y12 => (intro w' hSw; (try dsimp only at hSw); go_simp; try with_reducible rfl)
        try simp only [Act.put, List.setIfInBounds_toArray, List.set_cons_zero, List.set_cons_succ]
        refine takeO 6 (some 23) (v := ?v13) rfl rfl (by kernel_rfl) (by kernel_rfl) (by kernel_rfl) (Or.inl ⟨by rfl, ?y13⟩) hHeld ?r13
        case y13 => (intro w' hSw; (try dsimp only at hSw); go_simp; try with_reducible rfl)
        try simp only [Act.put, List.setIfInBounds_toArray, List.set_cons_zero, List.set_cons_succ]
        refine takeO 7 (some 24) rfl rfl (by kernel_rfl) (by kernel_rfl) (by kernel_rfl) (yields_at (b := b2) (off := o2 + j * 23) (cs := cs2) (by rfl) rfl rfl hsz2 (fun w' hSw i v hv => (RowKit.Below.cell (p := ⟨b2, _, none⟩) hSw hbl2).trans (HC2.out i v hv))) hHeld ?_
        try simp only [Act.put, List.setIfInBounds_toArray, List.set_cons_zero, List.set_cons_succ]
        refine wpAnyH_ready (rs := [8]) (by kernel_rfl) (by simp) ?_
        refine AllReadyH.cons rfl (fun K hK => ?_) AllReadyH.nil
        go_simp
        refine (HR.out wr.drew (below_drewN wr 1)).mono ?_
        rintro e2 u2 ⟨rfl, hb2⟩
        dsimp only
        have hb3 : Below wr.heap.size wr u2 := btrans (below_drewN wr 1) hb2
        have HB3 := hid (btrans HB.out hb3)
        refine hK.out _ _ hb3 (fun hHeld => ?_)
        clear hK K hb2
        refine takeO 9 (some 26) (v := ?v14) rfl rfl (by kernel_rfl) (by kernel_rfl) (by kernel_rfl) (Or.inl ⟨by rfl, ?y14⟩) hHeld ?r14
        case y14 => (intro w' hSw; (try dsimp only at hSw); go_simp; try with_reducible rfl)
        try simp only [Act.put, List.setIfInBounds_toArray, List.set_cons_zero, List.set_cons_succ]
        refine wpAnyH_done (by kernel_rfl) (Only.on ?_) _
        clear hHeld HR hb3 HC1 HC2
        go_wp2_with fail
        go_ret
        rw [hd]
        exact ⟨rfl, HB3.out⟩
    · have hjn : j = n := by omega
      have hd : decide (xs = ys) = true := decide_eq_true (HEQ.out.2 (fun k hk => hall k (by rw [HNX.out] at hk; omega)))
      have HB := hid hb
      clear hall hb
      go_wp2_with fail
      go_ret
      rw [hd]
      exact ⟨rfl, HB.out⟩
end Go.Proofs.Ytkmiogaklmgnkaa
