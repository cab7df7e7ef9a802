/- Layer 9 (grid): the contract of the document's own answer with. -/
import Derived.Test.YtfcaekboonnmaaaGrV
namespace Go.Proofs.Ytfcaekboonnmaaa
open Go.RowKit
set_option linter.unusedVariables false
set_option linter.unusedSimpArgs false
attribute [local go_sem ↓] Go.wp_at_zero Go.wp_at_succ

theorem step_append_run {P : Program} {w : World} {ops : Array Oper} {o : Oper} {a : Act} {K : Act → World → Prop} {Q : Exit → Act → World → Prop} {E : Prop} (hgd : o.guard = none) (s x : Operand) (t tn : TypeId)
    (ho : o.op = .call { callee := .builtin .append, args := #[s, x], argTypes := #[t, tn] }) (vs vx : Value) (hs : a.eval s = vs) (hx : a.eval x = vx)
    (v' : Value) (w' : World) (hr : (Builtin.append_ #[t, tn] o.type #[vs, vx]).run P w = .ok v' w') (h : K (a.put o.dst v') w') : if Region.wanted o (yielded ops a.tmps) = true then Oper.wp P o a w K Q else E := by
  have hw : Region.wanted o (yielded ops a.tmps) = true := by simp [Region.wanted, hgd]
  rw [if_pos hw]
  exact Lib.wp_append_run w s x t tn ho vs vx hs hx v' w' hr h
set_option maxRecDepth 100000 in
set_option maxHeartbeats 4000000 in
theorem refWith_at (ps : List (Int × Int)) (x1 x2 : Int) (hp : ∀ e ∈ ps, PartOk e) (hx : PartOk (x1, x2)) (hne : ps ≠ []) (hn : ps.length ≤ 300) (p : Option Addr) (cap : Nat) (w : World) (ha : ArgP w p cap ps)
    (k : Nat) (hk : k ≤ ps.length) (hl : ∀ j (hj : j < ps.length), j < k → LessP ps[j] (x1, x2)) (hnl : ∀ hk : k < ps.length, ¬ LessP ps[k] (x1, x2)) (qs : List (Int × Int))
    (hq : (∃ hk : k < ps.length, ¬ LessP (x1, x2) ps[k] ∧ qs = ps) ∨ ((∀ hk : k < ps.length, LessP (x1, x2) ps[k]) ∧ qs = ps.take k ++ (x1, x2) :: ps.drop k)) :
    Calls Try.prog 58 #[.slice p ps.length cap, .agg #[.int .i64 x1, .int .i64 x2]] w fun e w' => ∃ p' cap', e = .returned (.slice p' qs.length cap') ∧ ArgP w' p' cap' qs ∧ Below w.heap.size w w' := by
  obtain ⟨n, hlen⟩ : ∃ n, ps.length = n := ⟨_, rfl⟩
  have hle := ha.le; have hmost := ha.most
  unfold maxLen at hmost
  obtain ⟨g, o, rfl, hg, _⟩ := ha.src.at hne
  have HTL := hid (show (ps.take k).length = k by rw [List.length_take]; omega)
  have HDL := hid (show (ps.drop k).length = n - k by rw [List.length_drop, hlen])
  have Hl := hid hl; have Hnl := hid hnl; have Hq := hid hq; have Hp := hid hp; have HLEN := hid hlen
  have HA0 := hid ha
  have hpos : 0 < n := by have := List.length_pos_iff.2 hne; omega
  rw [hlen]
  rw [hlen] at hle hk hn
  clear hl hnl hq hp ha hlen hne
  go_enter Try.func58, Try.ntmps58
  go_wp2
  have BX : Below w.heap.size w (w.alloc (.cells #[.int .i64 x1, .int .i64 x2] 64)) := (Below.refl _ _).alloc (Nat.le_refl _) _
  have q0 : (w.alloc (.cells #[.int .i64 x1, .int .i64 x2] 64)).cell? ⟨w.heap.size, 0, none⟩ = some (.int .i64 x1) := by simp [go_sem]
  have q1 : (w.alloc (.cells #[.int .i64 x1, .int .i64 x2] 64)).cell? ⟨w.heap.size, 1, none⟩ = some (.int .i64 x2) := by simp [go_sem]
  generalize w.alloc (.cells #[.int .i64 x1, .int .i64 x2] 64) = W0 at *
  have HBX := hid BX
  have HA := hid (HA0.out.keep BX)
  have rq0 := stays q0; have rq1 := stays q1
  clear BX q0 q1 HA0
  go_loopw [5] (fun v wr => ∃ i : Nat, v = .int .i64 i ∧ i ≤ k ∧ Below W0.heap.size W0 wr) (fun v _ => k - (intOf v).toNat)
  case atStart => exact ⟨0, rfl, Nat.zero_le _, Below.refl _ _⟩
  case round =>
    obtain ⟨i, rfl, hi, hB⟩ := hrel
    have rb0 := stays (rq0 _ hB); have rb1 := stays (rq1 _ hB)
    by_cases hlt : i < k
    · have hin : i < n := by omega
      have hin' : i < ps.length := by rw [HLEN.out]; exact hin
      have hok := Hp.out ps[i] (List.getElem_mem hin')
      have hless := Hl.out i hin' hlt
      obtain ⟨g', o', hgo, hg', hc⟩ := (HA.out.keep hB).src.at (by intro e; rw [e] at hin'; simp at hin')
      cases hgo
      obtain ⟨s0, s1⟩ := hc i hin'
      obtain ⟨e, he⟩ : ∃ e, ps[i] = e := ⟨_, rfl⟩
      rw [he] at s0 s1 hok hless
      obtain ⟨e1, e2⟩ := e
      dsimp only at s0 s1
      have rs0 := stays s0; have rs1 := stays s1
      have kl := hid (fun V (hV : Below wr.heap.size wr V) => refLessP e1 e2 x1 x2 hok hx V)
      rw [decide_eq_true (show e1 * x2 < x1 * e2 from hless)] at kl
      clear hc s0 s1 he hok hless
      go_upto_region 2 with fail
      refine region_held (fun w' => Below wr.heap.size wr w') 12 rfl (by kernel_rfl) (below_drewN wr 1) ?_
      intro hHeld
      refine takeO 0 (some 6) (v := ?v1) rfl rfl (by kernel_rfl) (by kernel_rfl) (by kernel_rfl) (Or.inl ⟨by rfl, ?y1⟩) hHeld ?r1
      case y1 => (intro w' hSw; (try dsimp only at hSw); go_simp; try with_reducible rfl)
      try simp only [Act.put, List.setIfInBounds_toArray, List.set_cons_zero, List.set_cons_succ]
      refine takeO 1 (some 7) (v := ?v2) rfl rfl (by kernel_rfl) (by kernel_rfl) (by kernel_rfl) (Or.inl ⟨by rfl, ?y2⟩) hHeld ?r2
      case y2 => (intro w' hSw; (try dsimp only at hSw); go_simp; try with_reducible rfl)
      try simp only [Act.put, List.setIfInBounds_toArray, List.set_cons_zero, List.set_cons_succ]
      refine takeO 2 (some 8) (v := ?v3) rfl rfl (by kernel_rfl) (by kernel_rfl) (by kernel_rfl) (Or.inl ⟨by rfl, ?y3⟩) hHeld ?r3
      case y3 => (intro w' hSw; (try dsimp only at hSw); go_simp; try with_reducible rfl)
      try simp only [Act.put, List.setIfInBounds_toArray, List.set_cons_zero, List.set_cons_succ]
      refine takeO 3 (some 9) (v := ?v4) rfl rfl (by kernel_rfl) (by kernel_rfl) (by kernel_rfl) (Or.inl ⟨by rfl, ?y4⟩) hHeld ?r4
      case y4 => (intro w' hSw; (try dsimp only at hSw); go_simp; try with_reducible rfl)
      try simp only [Act.put, List.setIfInBounds_toArray, List.set_cons_zero, List.set_cons_succ]
      refine takeO 4 (some 10) (v := ?v5) rfl rfl (by kernel_rfl) (by kernel_rfl) (by kernel_rfl) (Or.inl ⟨by rfl, ?y5⟩) hHeld ?r5
      case y5 => (intro w' hSw; (try dsimp only at hSw); go_simp; try with_reducible rfl)
      try simp only [Act.put, List.setIfInBounds_toArray, List.set_cons_zero, List.set_cons_succ]
      refine takeO 5 (some 11) (v := ?v6) rfl rfl (by kernel_rfl) (by kernel_rfl) (by kernel_rfl) (Or.inl ⟨by rfl, ?y6⟩) hHeld ?r6
      case y6 => (intro w' hSw; (try dsimp only at hSw); go_simp; try with_reducible rfl)
      try simp only [Act.put, List.setIfInBounds_toArray, List.set_cons_zero, List.set_cons_succ]
      refine takeO 6 (some 12) (v := ?v7) rfl rfl (by kernel_rfl) (by kernel_rfl) (by kernel_rfl) (Or.inl ⟨by rfl, ?y7⟩) hHeld ?r7
      case y7 => (intro w' hSw; (try dsimp only at hSw); go_simp; try with_reducible rfl)
      try simp only [Act.put, List.setIfInBounds_toArray, List.set_cons_zero, List.set_cons_succ]
      refine takeO 7 (some 13) (v := ?v8) rfl rfl (by kernel_rfl) (by kernel_rfl) (by kernel_rfl) (Or.inl ⟨by rfl, ?y8⟩) hHeld ?r8
      case y8 => (intro w' hSw; (try dsimp only at hSw); go_simp; try with_reducible rfl)
      try simp only [Act.put, List.setIfInBounds_toArray, List.set_cons_zero, List.set_cons_succ]
      refine takeO 8 (some 14) (v := ?v9) rfl rfl (by kernel_rfl) (by kernel_rfl) (by kernel_rfl) (Or.inl ⟨by rfl, ?y9⟩) hHeld ?r9
      case y9 => (intro w' hSw; (try dsimp only at hSw); go_simp; try with_reducible rfl)
      try simp only [Act.put, List.setIfInBounds_toArray, List.set_cons_zero, List.set_cons_succ]
      refine takeO 9 (some 15) (v := ?v10) rfl rfl (by kernel_rfl) (by kernel_rfl) (by kernel_rfl) (Or.inl ⟨by rfl, ?y10⟩) hHeld ?r10
      case y10 => (intro w' hSw; (try dsimp only at hSw); go_simp; try with_reducible rfl)
      try simp only [Act.put, List.setIfInBounds_toArray, List.set_cons_zero, List.set_cons_succ]
      refine wpAnyH_ready (rs := [10]) (by kernel_rfl) (by simp) ?_
      refine AllReadyH.cons rfl (fun K hK => ?_) AllReadyH.nil
      go_simp
      refine (kl.out _ (below_drewN wr 1)).mono ?_
      rintro e V1 ⟨rfl, q1⟩
      dsimp only
      have HB1 : Below wr.heap.size wr V1 := Below.trans (below_drewN wr 1) q1
      refine hK.out _ _ HB1 (fun hHeld => ?_)
      clear hK K q1
      refine takeO 11 (some 17) (v := ?v11) rfl rfl (by kernel_rfl) (by kernel_rfl) (by kernel_rfl) (Or.inl ⟨by rfl, ?y11⟩) hHeld ?r11
      case y11 => (intro w' hSw; (try dsimp only at hSw); go_simp; try with_reducible rfl)
      try simp only [Act.put, List.setIfInBounds_toArray, List.set_cons_zero, List.set_cons_succ]
      refine wpAnyH_done (by kernel_rfl) (Only.on ?_) _
      clear hHeld
      go_wp2
      exact ⟨⟨i + 1, by go_num, by omega, btrans hB HB1⟩, by simp [intOf]; omega⟩
    · obtain rfl : i = k := by omega
      by_cases hin : i < n
      · have hin' : i < ps.length := by rw [HLEN.out]; exact hin
        have hok := Hp.out ps[i] (List.getElem_mem hin')
        have hless := Hnl.out hin'
        obtain ⟨g', o', hgo, hg', hc⟩ := (HA.out.keep hB).src.at (by intro e; rw [e] at hin'; simp at hin')
        cases hgo
        obtain ⟨s0, s1⟩ := hc i hin'
        obtain ⟨e, he⟩ : ∃ e, ps[i] = e := ⟨_, rfl⟩
        have HQ : Hid ((¬ LessP (x1, x2) e ∧ qs = ps) ∨ (LessP (x1, x2) e ∧ qs = ps.take i ++ (x1, x2) :: ps.drop i)) := hid (by
          rcases Hq.out with ⟨h, h1, h2⟩ | ⟨h1, h2⟩
          · exact .inl ⟨he ▸ h1, h2⟩
          · exact .inr ⟨he ▸ h1 hin', h2⟩)
        rw [he] at s0 s1 hok hless
        obtain ⟨e1, e2⟩ := e
        dsimp only at s0 s1
        have rs0 := stays s0; have rs1 := stays s1
        have kl := hid (fun V (hV : Below wr.heap.size wr V) => refLessP e1 e2 x1 x2 hok hx V)
        rw [decide_eq_false (show ¬ e1 * x2 < x1 * e2 from hless)] at kl
        clear hc s0 s1 he hless
        go_upto_region 2 with fail
        refine region_held (fun w' => Below wr.heap.size wr w') 12 rfl (by kernel_rfl) (below_drewN wr 1) ?_
        intro hHeld
        refine takeO 0 (some 6) (v := ?v12) rfl rfl (by kernel_rfl) (by kernel_rfl) (by kernel_rfl) (Or.inl ⟨by rfl, ?y12⟩) hHeld ?r12
        case y12 => (intro w' hSw; (try dsimp only at hSw); go_simp; try with_reducible rfl)
        try simp only [Act.put, List.setIfInBounds_toArray, List.set_cons_zero, List.set_cons_succ]
        refine takeO 1 (some 7) (v := ?v13) rfl rfl (by kernel_rfl) (by kernel_rfl) (by kernel_rfl) (Or.inl ⟨by rfl, ?y13⟩) hHeld ?r13
        case y13 => (intro w' hSw; (try dsimp only at hSw); go_simp; try with_reducible rfl)
        try simp only [Act.put, List.setIfInBounds_toArray, List.set_cons_zero, List.set_cons_succ]
        refine takeO 2 (some 8) (v := ?v14) rfl rfl (by kernel_rfl) (by kernel_rfl) (by kernel_rfl) (Or.inl ⟨by rfl, ?y14⟩) hHeld ?r14
        case y14 => (intro w' hSw; (try dsimp only at hSw); go_simp; try with_reducible rfl)
        try simp only [Act.put, List.setIfInBounds_toArray, List.set_cons_zero, List.set_cons_succ]
        refine takeO 3 (some 9) (v := ?v15) rfl rfl (by kernel_rfl) (by kernel_rfl) (by kernel_rfl) (Or.inl ⟨by rfl, ?y15⟩) hHeld ?r15
        case y15 => (intro w' hSw; (try dsimp only at hSw); go_simp; try with_reducible rfl)
        try simp only [Act.put, List.setIfInBounds_toArray, List.set_cons_zero, List.set_cons_succ]
        refine takeO 4 (some 10) (v := ?v16) rfl rfl (by kernel_rfl) (by kernel_rfl) (by kernel_rfl) (Or.inl ⟨by rfl, ?y16⟩) hHeld ?r16
        case y16 => (intro w' hSw; (try dsimp only at hSw); go_simp; try with_reducible rfl)
        try simp only [Act.put, List.setIfInBounds_toArray, List.set_cons_zero, List.set_cons_succ]
        refine takeO 5 (some 11) (v := ?v17) rfl rfl (by kernel_rfl) (by kernel_rfl) (by kernel_rfl) (Or.inl ⟨by rfl, ?y17⟩) hHeld ?r17
        case y17 => (intro w' hSw; (try dsimp only at hSw); go_simp; try with_reducible rfl)
        try simp only [Act.put, List.setIfInBounds_toArray, List.set_cons_zero, List.set_cons_succ]
        refine takeO 6 (some 12) (v := ?v18) rfl rfl (by kernel_rfl) (by kernel_rfl) (by kernel_rfl) (Or.inl ⟨by rfl, ?y18⟩) hHeld ?r18
        case y18 => (intro w' hSw; (try dsimp only at hSw); go_simp; try with_reducible rfl)
        try simp only [Act.put, List.setIfInBounds_toArray, List.set_cons_zero, List.set_cons_succ]
        refine takeO 7 (some 13) (v := ?v19) rfl rfl (by kernel_rfl) (by kernel_rfl) (by kernel_rfl) (Or.inl ⟨by rfl, ?y19⟩) hHeld ?r19
        case y19 => (intro w' hSw; (try dsimp only at hSw); go_simp; try with_reducible rfl)
        try simp only [Act.put, List.setIfInBounds_toArray, List.set_cons_zero, List.set_cons_succ]
        refine takeO 8 (some 14) (v := ?v20) rfl rfl (by kernel_rfl) (by kernel_rfl) (by kernel_rfl) (Or.inl ⟨by rfl, ?y20⟩) hHeld ?r20
        case y20 => (intro w' hSw; (try dsimp only at hSw); go_simp; try with_reducible rfl)
        try simp only [Act.put, List.setIfInBounds_toArray, List.set_cons_zero, List.set_cons_succ]
        refine takeO 9 (some 15) (v := ?v21) rfl rfl (by kernel_rfl) (by kernel_rfl) (by kernel_rfl) (Or.inl ⟨by rfl, ?y21⟩) hHeld ?r21
        case y21 => (intro w' hSw; (try dsimp only at hSw); go_simp; try with_reducible rfl)
        try simp only [Act.put, List.setIfInBounds_toArray, List.set_cons_zero, List.set_cons_succ]
        refine wpAnyH_ready (rs := [10]) (by kernel_rfl) (by simp) ?_
        refine AllReadyH.cons rfl (fun K hK => ?_) AllReadyH.nil
        go_simp
        refine (kl.out _ (below_drewN wr 1)).mono ?_
        rintro e V1 ⟨rfl, q1⟩
        dsimp only
        have HB1 : Below wr.heap.size wr V1 := Below.trans (below_drewN wr 1) q1
        refine hK.out _ _ HB1 (fun hHeld => ?_)
        clear hK K q1
        refine takeO 11 (some 17) (v := ?v22) rfl rfl (by kernel_rfl) (by kernel_rfl) (by kernel_rfl) (Or.inl ⟨by rfl, ?y22⟩) hHeld ?r22
        case y22 => (intro w' hSw; (try dsimp only at hSw); go_simp; try with_reducible rfl)
        try simp only [Act.put, List.setIfInBounds_toArray, List.set_cons_zero, List.set_cons_succ]
        refine wpAnyH_done (by kernel_rfl) (Only.on ?_) _
        clear hHeld
        go_upto_region 4 with fail
        have tb0 := stays (rb0 _ HB1); have tb1 := stays (rb1 _ HB1); have ts0 := stays (rs0 _ HB1); have ts1 := stays (rs1 _ HB1)
        clear rb0 rb1 rs0 rs1
        have HBV := hid (btrans HBX.out (btrans hB HB1))
        have HAV := hid (HA.out.keep (btrans hB HB1))
        have kg := hid (fun V (hV : Below V1.heap.size V1 V) => refLessP x1 x2 e1 e2 hx hok V)
        clear HB1 hB
        by_cases hc : x1 * e2 < e1 * x2
        · have HQE := hid (show qs = ps.take i ++ (x1, x2) :: ps.drop i by
            rcases HQ.out with ⟨h, _⟩ | ⟨_, h⟩
            · exact absurd hc h
            · exact h)
          rw [decide_eq_true hc] at kg
          clear hc
          refine region_held (fun w' => Below V1.heap.size V1 w') 13 rfl (by kernel_rfl) (below_drewN V1 1) ?_
          intro hHeld
          refine takeO 0 (some 20) (v := ?v23) rfl rfl (by kernel_rfl) (by kernel_rfl) (by kernel_rfl) (Or.inl ⟨by rfl, ?y23⟩) hHeld ?r23
          case y23 => (intro w' hSw; (try dsimp only at hSw); go_simp; try with_reducible rfl)
          try simp only [Act.put, List.setIfInBounds_toArray, List.set_cons_zero, List.set_cons_succ]
          refine takeO 1 (some 21) (v := ?v24) rfl rfl (by kernel_rfl) (by kernel_rfl) (by kernel_rfl) (Or.inl ⟨by rfl, ?y24⟩) hHeld ?r24
          case y24 => (intro w' hSw; (try dsimp only at hSw); go_simp; try with_reducible rfl)
          try simp only [Act.put, List.setIfInBounds_toArray, List.set_cons_zero, List.set_cons_succ]
          refine takeO 2 (some 22) (v := ?v25) rfl rfl (by kernel_rfl) (by kernel_rfl) (by kernel_rfl) (Or.inl ⟨by rfl, ?y25⟩) hHeld ?r25
          case y25 => (intro w' hSw; (try dsimp only at hSw); go_simp; try with_reducible rfl)
          try simp only [Act.put, List.setIfInBounds_toArray, List.set_cons_zero, List.set_cons_succ]
          refine takeO 3 (some 23) (v := ?v26) rfl rfl (by kernel_rfl) (by kernel_rfl) (by kernel_rfl) (Or.inl ⟨by rfl, ?y26⟩) hHeld ?r26
          case y26 => (intro w' hSw; (try dsimp only at hSw); go_simp; try with_reducible rfl)
          try simp only [Act.put, List.setIfInBounds_toArray, List.set_cons_zero, List.set_cons_succ]
          refine takeO 4 (some 24) (v := ?v27) rfl rfl (by kernel_rfl) (by kernel_rfl) (by kernel_rfl) (Or.inl ⟨by rfl, ?y27⟩) hHeld ?r27
          case y27 => (intro w' hSw; (try dsimp only at hSw); go_simp; try with_reducible rfl)
          try simp only [Act.put, List.setIfInBounds_toArray, List.set_cons_zero, List.set_cons_succ]
          refine takeO 5 (some 25) (v := ?v28) rfl rfl (by kernel_rfl) (by kernel_rfl) (by kernel_rfl) (Or.inl ⟨by rfl, ?y28⟩) hHeld ?r28
          case y28 => (intro w' hSw; (try dsimp only at hSw); go_simp; try with_reducible rfl)
          try simp only [Act.put, List.setIfInBounds_toArray, List.set_cons_zero, List.set_cons_succ]
          refine takeO 6 (some 26) (v := ?v29) rfl rfl (by kernel_rfl) (by kernel_rfl) (by kernel_rfl) (Or.inl ⟨by rfl, ?y29⟩) hHeld ?r29
          case y29 => (intro w' hSw; (try dsimp only at hSw); go_simp; try with_reducible rfl)
          try simp only [Act.put, List.setIfInBounds_toArray, List.set_cons_zero, List.set_cons_succ]
          refine takeO 7 (some 27) (v := ?v30) rfl rfl (by kernel_rfl) (by kernel_rfl) (by kernel_rfl) (Or.inl ⟨by rfl, ?y30⟩) hHeld ?r30
          case y30 => (intro w' hSw; (try dsimp only at hSw); go_simp; try with_reducible rfl)
          try simp only [Act.put, List.setIfInBounds_toArray, List.set_cons_zero, List.set_cons_succ]
          refine takeO 8 (some 28) (v := ?v31) rfl rfl (by kernel_rfl) (by kernel_rfl) (by kernel_rfl) (Or.inl ⟨by rfl, ?y31⟩) hHeld ?r31
          case y31 => (intro w' hSw; (try dsimp only at hSw); go_simp; try with_reducible rfl)
          try simp only [Act.put, List.setIfInBounds_toArray, List.set_cons_zero, List.set_cons_succ]
          refine takeO 9 (some 29) (v := ?v32) rfl rfl (by kernel_rfl) (by kernel_rfl) (by kernel_rfl) (Or.inl ⟨by rfl, ?y32⟩) hHeld ?r32
          case y32 => (intro w' hSw; (try dsimp only at hSw); go_simp; try with_reducible rfl)
          try simp only [Act.put, List.setIfInBounds_toArray, List.set_cons_zero, List.set_cons_succ]
          refine wpAnyH_ready (rs := [10]) (by kernel_rfl) (by simp) ?_
          refine AllReadyH.cons rfl (fun K hK => ?_) AllReadyH.nil
          go_simp
          refine (kg.out _ (below_drewN V1 1)).mono ?_
          rintro e V12 ⟨rfl, q12⟩
          dsimp only
          have HB12 : Below V1.heap.size V1 V12 := Below.trans (below_drewN V1 1) q12
          refine hK.out _ _ HB12 (fun hHeld => ?_)
          clear hK K q12
          refine takeO 11 (some 31) (v := ?v33) rfl rfl (by kernel_rfl) (by kernel_rfl) (by kernel_rfl) (Or.inl ⟨by rfl, ?y33⟩) hHeld ?r33
          case y33 => (intro w' hSw; (try dsimp only at hSw); go_simp; try with_reducible rfl)
          try simp only [Act.put, List.setIfInBounds_toArray, List.set_cons_zero, List.set_cons_succ]
          refine takeO 12 (some 32) (v := ?v34) rfl rfl (by kernel_rfl) (by kernel_rfl) (by kernel_rfl) (Or.inl ⟨by rfl, ?y34⟩) hHeld ?r34
          case y34 => (intro w' hSw; (try dsimp only at hSw); go_simp; try with_reducible rfl)
          try simp only [Act.put, List.setIfInBounds_toArray, List.set_cons_zero, List.set_cons_succ]
          refine wpAnyH_done (by kernel_rfl) (Only.on ?_) _
          clear hHeld
          go_upto_region 6 with fail
          have rb0 := stays (tb0 _ HB12); have rb1 := stays (tb1 _ HB12)
          clear tb0 tb1 ts0 ts1
          have HBW := hid (btrans HBV.out HB12)
          have HA := hid (HAV.out.keep HB12)
          clear HB12
          have HDROP := hid (HA.out.src.drop i)
          have hic : i ≤ cap := by omega
          have hin2 : i ≤ n := by omega
          have hck : ¬ cap = i := by omega
          have HDK := hid HDL.out
          obtain ⟨cd, hcd⟩ : ∃ c, c = cap - i := ⟨_, rfl⟩
          have HCD := hid hcd
          clear hcd
          -- at world V12, HBW : Hid (Below w.heap.size w V12), HA : Hid (ArgP V12 (some ⟨g, o, none⟩) cap ps), rb : rules of the box
          have HTAKE := hid (HA.out.src.take i)
          refine region_held (fun w' => Below V12.heap.size V12 w') 13 rfl (by kernel_rfl) (below_drewN V12 1) ?_
          intro hHeld
          refine takeO 1 (some 35) (v := ?v35) rfl rfl (by kernel_rfl) (by kernel_rfl) (by kernel_rfl) (Or.inl ⟨by rfl, ?y35⟩) hHeld ?r35
          case y35 => (intro w' hSw; (try dsimp only at hSw); go_simp; try with_reducible rfl)
          try simp only [Act.put, List.setIfInBounds_toArray, List.set_cons_zero, List.set_cons_succ]
          refine takeO 2 (some 36) (v := ?v36) rfl rfl (by kernel_rfl) (by kernel_rfl) (by kernel_rfl) (Or.inl ⟨by rfl, ?y36⟩) hHeld ?r36
          case y36 => (intro w' hSw; (try dsimp only at hSw); go_simp; try with_reducible rfl)
          try simp only [Act.put, List.setIfInBounds_toArray, List.set_cons_zero, List.set_cons_succ]
          refine takeO 3 (some 37) (v := ?v37) rfl rfl (by kernel_rfl) (by kernel_rfl) (by kernel_rfl) (Or.inl ⟨by rfl, ?y37⟩) hHeld ?r37
          case y37 => (intro w' hSw; (try dsimp only at hSw); go_simp; try with_reducible rfl)
          try simp only [Act.put, List.setIfInBounds_toArray, List.set_cons_zero, List.set_cons_succ]
          refine takeO 5 (some 39) (v := ?v38) rfl rfl (by kernel_rfl) (by kernel_rfl) (by kernel_rfl) (Or.inl ⟨by rfl, ?y38⟩) hHeld ?r38
          case y38 => (intro w' hSw; (try dsimp only at hSw); go_simp; try with_reducible rfl)
          try simp only [Act.put, List.setIfInBounds_toArray, List.set_cons_zero, List.set_cons_succ]
          refine takeO 8 (some 42) (v := ?v39) rfl rfl (by kernel_rfl) (by kernel_rfl) (by kernel_rfl) (Or.inl ⟨by rfl, ?y39⟩) hHeld ?r39
          case y39 => (intro w' hSw; (try dsimp only at hSw); go_simp; try with_reducible rfl)
          try simp only [Act.put, List.setIfInBounds_toArray, List.set_cons_zero, List.set_cons_succ]
          refine takeO 9 (some 43) (v := ?v40) rfl rfl (by kernel_rfl) (by kernel_rfl) (by kernel_rfl) (Or.inl ⟨by rfl, ?y40⟩) hHeld ?r40
          case y40 => (intro w' hSw; (try dsimp only at hSw); go_simp; try with_reducible rfl)
          try simp only [Act.put, List.setIfInBounds_toArray, List.set_cons_zero, List.set_cons_succ]
          refine takeO 10 (some 44) (v := ?v41) rfl rfl (by kernel_rfl) (by kernel_rfl) (by kernel_rfl) (Or.inl ⟨by rfl, ?y41⟩) hHeld ?r41
          case y41 => (intro w' hSw; (try dsimp only at hSw); go_simp; try with_reducible rfl)
          try simp only [Act.put, List.setIfInBounds_toArray, List.set_cons_zero, List.set_cons_succ]
          try simp only [if_neg hck]
          refine wpAnyH_ready (rs := [0, 6]) (by kernel_rfl) (by simp) ?_
          refine AllReadyH.cons rfl (fun K hK => ?_) (AllReadyH.cons rfl (fun K hK => ?_) AllReadyH.nil)
          · go_simp
            have row1 : RowP (V12.alloc (.cells #[] 64)).drew V12.heap.size (.slice (some ⟨V12.heap.size, 0, none⟩) 0 0) [] := (rowP_new V12).keep (below_drewN _ 1)
            have hB1 : Below V12.heap.size V12 (V12.alloc (.cells #[] 64)).drew := ((Below.refl _ _).alloc (Nat.le_refl _) _).drew
            have hg1 : V12.heap.size < (V12.alloc (.cells #[] 64)).drew.heap.size := by show V12.heap.size < (V12.alloc (.cells #[] 64)).heap.size; simp
            generalize (V12.alloc (.cells #[] 64)).drew = X1 at *
            refine hK.out _ _ hB1 (fun hHeld => ?_)
            clear hK K
            refine wpAnyH_ready (rs := [4, 6]) (by kernel_rfl) (by simp) ?_
            refine AllReadyH.cons rfl (fun K hK => ?_) (AllReadyH.cons rfl (fun K hK => ?_) AllReadyH.nil)
            · obtain ⟨a2, c2', X2, r2, row2, b2, _⟩ := appendP (cap := cap) 65 row1 (HTAKE.out.keep hB1) hB1.size (by have := HTL.out; simp; omega)
              rw [List.nil_append, HTL.out] at r2
              rw [List.nil_append, HTL.out] at row2
              have hB2 := hB1.trans b2
              clear row1 b2
              refine step_append_run (by rfl) _ _ 65 65 (by rfl) _ _ (by rfl) (by rfl) _ _ r2 ?_
              change K (Act.put _ (some 38) _) _
              simp only [Act.put, List.setIfInBounds_toArray, List.set_cons_zero, List.set_cons_succ]
              refine hK.out _ _ hB2 (fun hHeld => ?_)
              clear hK K r2
              refine wpAnyH_ready (rs := [6]) (by kernel_rfl) (by simp) ?_
              refine AllReadyH.cons rfl (fun K hK => ?_) AllReadyH.nil
              go_simp
              have src := srcP_one X2 x1 x2
              have hbb : Below X2.heap.size X2 (X2.alloc (.cells #[.int .i64 x1, .int .i64 x2] 64)) := (Below.refl _ _).alloc (Nat.le_refl _) _
              have row := row2.keep hbb
              have hB := hB2.trans (hbb.mono hB2.size)
              obtain ⟨sb, hsb⟩ : ∃ sb, X2.heap.size = sb := ⟨_, rfl⟩
              rw [hsb] at src ⊢
              generalize X2.alloc (.cells #[.int .i64 x1, .int .i64 x2] 64) = X3 at *
              clear row2 hB2 hbb
              refine hK.out _ _ hB (fun hHeld => ?_)
              clear hK K
              -- both laid: at world X: row : RowP X W.heap.size (.slice a2 m c2') (ps.take i), src : SrcP X (some ⟨sb, 0, none⟩) [(x1, x2)], hB : Below W.heap.size W X
              obtain ⟨a4, c4, X4, r4, row4, b4, _⟩ := appendP (cap := 1) 65 row src hB.size (by have := HTL.out; simp; omega)
              have e4 : ([(x1, x2)] : List (Int × Int)).length = 1 := rfl
              rw [e4] at r4
              have hB4 := hB.trans b4
              obtain ⟨m4, hm4⟩ : ∃ m4, (ps.take i ++ [(x1, x2)]).length = m4 := ⟨_, rfl⟩
              rw [hm4] at r4 row4
              have ROW4 := hid row4
              have HM4 := hid hm4
              clear hm4 e4 src row b4
              refine wpAnyH_ready (rs := [7]) (by kernel_rfl) (by simp) ?_
              refine AllReadyH.cons rfl (fun K hK => ?_) AllReadyH.nil
              refine step_append_run (by rfl) _ _ 65 65 (by rfl) _ _ (by rfl) (by rfl) _ _ r4 ?_
              change K (Act.put _ (some 41) _) _
              simp only [Act.put, List.setIfInBounds_toArray, List.set_cons_zero, List.set_cons_succ]
              refine hK.out _ _ hB4 (fun hHeld => ?_)
              clear hK K r4
              obtain ⟨a5, c5, X5, r5, row5, b5, _⟩ := appendP (cap := cd) 65 ROW4.out (HDROP.out.keep hB4) hB4.size (by have := HTL.out; have := HDK.out; rw [List.length_append]; simp only [List.length_cons, List.length_nil]; omega)
              have hB5 := hB4.trans b5
              rw [HDK.out, HCD.out] at r5
              rw [show ps.take i ++ [(x1, x2)] ++ ps.drop i = qs by rw [HQE.out]; simp] at r5 row5
              obtain ⟨m5, hm5⟩ : ∃ m5, qs.length = m5 := ⟨_, rfl⟩
              have ROW5 := hid row5
              rw [hm5] at r5
              have HM5 := hid hm5
              clear hm5 row5 b5
              refine wpAnyH_ready (rs := [11]) (by kernel_rfl) (by simp) ?_
              refine AllReadyH.cons rfl (fun K hK => ?_) AllReadyH.nil
              refine step_append_run (by rfl) _ _ 65 65 (by rfl) _ _ (by rfl) (by rfl) _ _ r5 ?_
              change K (Act.put _ (some 45) _) _
              simp only [Act.put, List.setIfInBounds_toArray, List.set_cons_zero, List.set_cons_succ]
              refine hK.out _ _ hB5 (fun hHeld => ?_)
              clear hK K r5
              refine takeO 12 (some 4) (v := ?v42) rfl rfl (by kernel_rfl) (by kernel_rfl) (by kernel_rfl) (Or.inl ⟨by rfl, ?y42⟩) hHeld ?r42
              case y42 => (intro w' hSw; (try dsimp only at hSw); go_simp; try with_reducible rfl)
              try simp only [Act.put, List.setIfInBounds_toArray, List.set_cons_zero, List.set_cons_succ]
              refine wpAnyH_done (by kernel_rfl) (Only.on ?_) _
              clear hHeld
              go_wp2
              go_ret
              obtain ⟨aa, cc, evv, hArg⟩ := ROW5.out.form
              cases evv
              refine ⟨_, _, ?_, hArg, btrans HBW.out hB5⟩
              (rw [HM5.out]) <;> rfl
            · go_simp
              have src0 := srcP_one X1 x1 x2
              have hbb : Below X1.heap.size X1 (X1.alloc (.cells #[.int .i64 x1, .int .i64 x2] 64)) := (Below.refl _ _).alloc (Nat.le_refl _) _
              have row0 := row1.keep hbb
              have hB0 := hB1.trans (hbb.mono hB1.size)
              obtain ⟨sb, hsb⟩ : ∃ sb, X1.heap.size = sb := ⟨_, rfl⟩
              rw [hsb] at src0 hg1 ⊢
              generalize X1.alloc (.cells #[.int .i64 x1, .int .i64 x2] 64) = X2 at *
              clear row1 hB1 hbb
              refine hK.out _ _ hB0 (fun hHeld => ?_)
              clear hK K
              refine wpAnyH_ready (rs := [4]) (by kernel_rfl) (by simp) ?_
              refine AllReadyH.cons rfl (fun K hK => ?_) AllReadyH.nil
              obtain ⟨a2, c2', X3, r2, row, b2, f2⟩ := appendP (cap := cap) 65 row0 (HTAKE.out.keep hB0) hB0.size (by have := HTL.out; simp; omega)
              rw [List.nil_append, HTL.out] at r2
              rw [List.nil_append, HTL.out] at row
              have hB := hB0.trans b2
              have src := src0.fr f2 (fun ad had => by cases had; intro e; have e2 : V12.heap.size = sb := Option.some.inj e; omega)
              clear row0 b2 f2 src0 hB0
              refine step_append_run (by rfl) _ _ 65 65 (by rfl) _ _ (by rfl) (by rfl) _ _ r2 ?_
              change K (Act.put _ (some 38) _) _
              simp only [Act.put, List.setIfInBounds_toArray, List.set_cons_zero, List.set_cons_succ]
              refine hK.out _ _ hB (fun hHeld => ?_)
              clear hK K r2
              -- both laid: at world X: row : RowP X W.heap.size (.slice a2 m c2') (ps.take i), src : SrcP X (some ⟨sb, 0, none⟩) [(x1, x2)], hB : Below W.heap.size W X
              obtain ⟨a4, c4, X4, r4, row4, b4, _⟩ := appendP (cap := 1) 65 row src hB.size (by have := HTL.out; simp; omega)
              have e4 : ([(x1, x2)] : List (Int × Int)).length = 1 := rfl
              rw [e4] at r4
              have hB4 := hB.trans b4
              obtain ⟨m4, hm4⟩ : ∃ m4, (ps.take i ++ [(x1, x2)]).length = m4 := ⟨_, rfl⟩
              rw [hm4] at r4 row4
              have ROW4 := hid row4
              have HM4 := hid hm4
              clear hm4 e4 src row b4
              refine wpAnyH_ready (rs := [7]) (by kernel_rfl) (by simp) ?_
              refine AllReadyH.cons rfl (fun K hK => ?_) AllReadyH.nil
              refine step_append_run (by rfl) _ _ 65 65 (by rfl) _ _ (by rfl) (by rfl) _ _ r4 ?_
              change K (Act.put _ (some 41) _) _
              simp only [Act.put, List.setIfInBounds_toArray, List.set_cons_zero, List.set_cons_succ]
              refine hK.out _ _ hB4 (fun hHeld => ?_)
              clear hK K r4
              obtain ⟨a5, c5, X5, r5, row5, b5, _⟩ := appendP (cap := cd) 65 ROW4.out (HDROP.out.keep hB4) hB4.size (by have := HTL.out; have := HDK.out; rw [List.length_append]; simp only [List.length_cons, List.length_nil]; omega)
              have hB5 := hB4.trans b5
              rw [HDK.out, HCD.out] at r5
              rw [show ps.take i ++ [(x1, x2)] ++ ps.drop i = qs by rw [HQE.out]; simp] at r5 row5
              obtain ⟨m5, hm5⟩ : ∃ m5, qs.length = m5 := ⟨_, rfl⟩
              have ROW5 := hid row5
              rw [hm5] at r5
              have HM5 := hid hm5
              clear hm5 row5 b5
              refine wpAnyH_ready (rs := [11]) (by kernel_rfl) (by simp) ?_
              refine AllReadyH.cons rfl (fun K hK => ?_) AllReadyH.nil
              refine step_append_run (by rfl) _ _ 65 65 (by rfl) _ _ (by rfl) (by rfl) _ _ r5 ?_
              change K (Act.put _ (some 45) _) _
              simp only [Act.put, List.setIfInBounds_toArray, List.set_cons_zero, List.set_cons_succ]
              refine hK.out _ _ hB5 (fun hHeld => ?_)
              clear hK K r5
              refine takeO 12 (some 4) (v := ?v43) rfl rfl (by kernel_rfl) (by kernel_rfl) (by kernel_rfl) (Or.inl ⟨by rfl, ?y43⟩) hHeld ?r43
              case y43 => (intro w' hSw; (try dsimp only at hSw); go_simp; try with_reducible rfl)
              try simp only [Act.put, List.setIfInBounds_toArray, List.set_cons_zero, List.set_cons_succ]
              refine wpAnyH_done (by kernel_rfl) (Only.on ?_) _
              clear hHeld
              go_wp2
              go_ret
              obtain ⟨aa, cc, evv, hArg⟩ := ROW5.out.form
              cases evv
              refine ⟨_, _, ?_, hArg, btrans HBW.out hB5⟩
              (rw [HM5.out]) <;> rfl
          · go_simp
            have src1 : SrcP (V12.alloc (.cells #[.int .i64 x1, .int .i64 x2] 64)).drew (some ⟨V12.heap.size, 0, none⟩) [(x1, x2)] := (srcP_one V12 x1 x2).keep (below_drewN _ 1)
            have hB1 : Below V12.heap.size V12 (V12.alloc (.cells #[.int .i64 x1, .int .i64 x2] 64)).drew := ((Below.refl _ _).alloc (Nat.le_refl _) _).drew
            have hg1 : V12.heap.size < (V12.alloc (.cells #[.int .i64 x1, .int .i64 x2] 64)).drew.heap.size := by show V12.heap.size < (V12.alloc (.cells #[.int .i64 x1, .int .i64 x2] 64)).heap.size; simp
            generalize (V12.alloc (.cells #[.int .i64 x1, .int .i64 x2] 64)).drew = X1 at *
            refine hK.out _ _ hB1 (fun hHeld => ?_)
            clear hK K
            refine wpAnyH_ready (rs := [0]) (by kernel_rfl) (by simp) ?_
            refine AllReadyH.cons rfl (fun K hK => ?_) AllReadyH.nil
            go_simp
            have row0 : RowP (X1.alloc (.cells #[] 64)) V12.heap.size (.slice (some ⟨X1.heap.size, 0, none⟩) 0 0) [] := (rowP_new X1).base hB1.size
            have hbb : Below X1.heap.size X1 (X1.alloc (.cells #[] 64)) := (Below.refl _ _).alloc (Nat.le_refl _) _
            have src0 := src1.keep hbb
            have hB0 := hB1.trans (hbb.mono hB1.size)
            obtain ⟨sb, hsb⟩ : ∃ sb, X1.heap.size = sb := ⟨_, rfl⟩
            rw [hsb] at row0 hg1 ⊢
            generalize X1.alloc (.cells #[] 64) = X2 at *
            clear src1 hB1 hbb
            refine hK.out _ _ hB0 (fun hHeld => ?_)
            clear hK K
            refine wpAnyH_ready (rs := [4]) (by kernel_rfl) (by simp) ?_
            refine AllReadyH.cons rfl (fun K hK => ?_) AllReadyH.nil
            obtain ⟨a2, c2', X3, r2, row, b2, f2⟩ := appendP (cap := cap) 65 row0 (HTAKE.out.keep hB0) hB0.size (by have := HTL.out; simp; omega)
            rw [List.nil_append, HTL.out] at r2
            rw [List.nil_append, HTL.out] at row
            have hB := hB0.trans b2
            have src := src0.fr f2 (fun ad had => by cases had; intro e; have e2 : sb = V12.heap.size := Option.some.inj e; omega)
            clear row0 b2 f2 src0 hB0
            refine step_append_run (by rfl) _ _ 65 65 (by rfl) _ _ (by rfl) (by rfl) _ _ r2 ?_
            change K (Act.put _ (some 38) _) _
            simp only [Act.put, List.setIfInBounds_toArray, List.set_cons_zero, List.set_cons_succ]
            refine hK.out _ _ hB (fun hHeld => ?_)
            clear hK K r2
            -- both laid: at world X: row : RowP X W.heap.size (.slice a2 m c2') (ps.take i), src : SrcP X (some ⟨sb, 0, none⟩) [(x1, x2)], hB : Below W.heap.size W X
            obtain ⟨a4, c4, X4, r4, row4, b4, _⟩ := appendP (cap := 1) 65 row src hB.size (by have := HTL.out; simp; omega)
            have e4 : ([(x1, x2)] : List (Int × Int)).length = 1 := rfl
            rw [e4] at r4
            have hB4 := hB.trans b4
            obtain ⟨m4, hm4⟩ : ∃ m4, (ps.take i ++ [(x1, x2)]).length = m4 := ⟨_, rfl⟩
            rw [hm4] at r4 row4
            have ROW4 := hid row4
            have HM4 := hid hm4
            clear hm4 e4 src row b4
            refine wpAnyH_ready (rs := [7]) (by kernel_rfl) (by simp) ?_
            refine AllReadyH.cons rfl (fun K hK => ?_) AllReadyH.nil
            refine step_append_run (by rfl) _ _ 65 65 (by rfl) _ _ (by rfl) (by rfl) _ _ r4 ?_
            change K (Act.put _ (some 41) _) _
            simp only [Act.put, List.setIfInBounds_toArray, List.set_cons_zero, List.set_cons_succ]
            refine hK.out _ _ hB4 (fun hHeld => ?_)
            clear hK K r4
            obtain ⟨a5, c5, X5, r5, row5, b5, _⟩ := appendP (cap := cd) 65 ROW4.out (HDROP.out.keep hB4) hB4.size (by have := HTL.out; have := HDK.out; rw [List.length_append]; simp only [List.length_cons, List.length_nil]; omega)
            have hB5 := hB4.trans b5
            rw [HDK.out, HCD.out] at r5
            rw [show ps.take i ++ [(x1, x2)] ++ ps.drop i = qs by rw [HQE.out]; simp] at r5 row5
            obtain ⟨m5, hm5⟩ : ∃ m5, qs.length = m5 := ⟨_, rfl⟩
            have ROW5 := hid row5
            rw [hm5] at r5
            have HM5 := hid hm5
            clear hm5 row5 b5
            refine wpAnyH_ready (rs := [11]) (by kernel_rfl) (by simp) ?_
            refine AllReadyH.cons rfl (fun K hK => ?_) AllReadyH.nil
            refine step_append_run (by rfl) _ _ 65 65 (by rfl) _ _ (by rfl) (by rfl) _ _ r5 ?_
            change K (Act.put _ (some 45) _) _
            simp only [Act.put, List.setIfInBounds_toArray, List.set_cons_zero, List.set_cons_succ]
            refine hK.out _ _ hB5 (fun hHeld => ?_)
            clear hK K r5
            refine takeO 12 (some 4) (v := ?v44) rfl rfl (by kernel_rfl) (by kernel_rfl) (by kernel_rfl) (Or.inl ⟨by rfl, ?y44⟩) hHeld ?r44
            case y44 => (intro w' hSw; (try dsimp only at hSw); go_simp; try with_reducible rfl)
            try simp only [Act.put, List.setIfInBounds_toArray, List.set_cons_zero, List.set_cons_succ]
            refine wpAnyH_done (by kernel_rfl) (Only.on ?_) _
            clear hHeld
            go_wp2
            go_ret
            obtain ⟨aa, cc, evv, hArg⟩ := ROW5.out.form
            cases evv
            refine ⟨_, _, ?_, hArg, btrans HBW.out hB5⟩
            (rw [HM5.out]) <;> rfl
        · obtain rfl : qs = ps := by
            rcases HQ.out with ⟨_, h⟩ | ⟨h, _⟩
            · exact h
            · exact absurd h hc
          rw [decide_eq_false hc] at kg
          clear hc
          refine region_held (fun w' => Below V1.heap.size V1 w') 13 rfl (by kernel_rfl) (below_drewN V1 1) ?_
          intro hHeld
          refine takeO 0 (some 20) (v := ?v45) rfl rfl (by kernel_rfl) (by kernel_rfl) (by kernel_rfl) (Or.inl ⟨by rfl, ?y45⟩) hHeld ?r45
          case y45 => (intro w' hSw; (try dsimp only at hSw); go_simp; try with_reducible rfl)
          try simp only [Act.put, List.setIfInBounds_toArray, List.set_cons_zero, List.set_cons_succ]
          refine takeO 1 (some 21) (v := ?v46) rfl rfl (by kernel_rfl) (by kernel_rfl) (by kernel_rfl) (Or.inl ⟨by rfl, ?y46⟩) hHeld ?r46
          case y46 => (intro w' hSw; (try dsimp only at hSw); go_simp; try with_reducible rfl)
          try simp only [Act.put, List.setIfInBounds_toArray, List.set_cons_zero, List.set_cons_succ]
          refine takeO 2 (some 22) (v := ?v47) rfl rfl (by kernel_rfl) (by kernel_rfl) (by kernel_rfl) (Or.inl ⟨by rfl, ?y47⟩) hHeld ?r47
          case y47 => (intro w' hSw; (try dsimp only at hSw); go_simp; try with_reducible rfl)
          try simp only [Act.put, List.setIfInBounds_toArray, List.set_cons_zero, List.set_cons_succ]
          refine takeO 3 (some 23) (v := ?v48) rfl rfl (by kernel_rfl) (by kernel_rfl) (by kernel_rfl) (Or.inl ⟨by rfl, ?y48⟩) hHeld ?r48
          case y48 => (intro w' hSw; (try dsimp only at hSw); go_simp; try with_reducible rfl)
          try simp only [Act.put, List.setIfInBounds_toArray, List.set_cons_zero, List.set_cons_succ]
          refine takeO 4 (some 24) (v := ?v49) rfl rfl (by kernel_rfl) (by kernel_rfl) (by kernel_rfl) (Or.inl ⟨by rfl, ?y49⟩) hHeld ?r49
          case y49 => (intro w' hSw; (try dsimp only at hSw); go_simp; try with_reducible rfl)
          try simp only [Act.put, List.setIfInBounds_toArray, List.set_cons_zero, List.set_cons_succ]
          refine takeO 5 (some 25) (v := ?v50) rfl rfl (by kernel_rfl) (by kernel_rfl) (by kernel_rfl) (Or.inl ⟨by rfl, ?y50⟩) hHeld ?r50
          case y50 => (intro w' hSw; (try dsimp only at hSw); go_simp; try with_reducible rfl)
          try simp only [Act.put, List.setIfInBounds_toArray, List.set_cons_zero, List.set_cons_succ]
          refine takeO 6 (some 26) (v := ?v51) rfl rfl (by kernel_rfl) (by kernel_rfl) (by kernel_rfl) (Or.inl ⟨by rfl, ?y51⟩) hHeld ?r51
          case y51 => (intro w' hSw; (try dsimp only at hSw); go_simp; try with_reducible rfl)
          try simp only [Act.put, List.setIfInBounds_toArray, List.set_cons_zero, List.set_cons_succ]
          refine takeO 7 (some 27) (v := ?v52) rfl rfl (by kernel_rfl) (by kernel_rfl) (by kernel_rfl) (Or.inl ⟨by rfl, ?y52⟩) hHeld ?r52
          case y52 => (intro w' hSw; (try dsimp only at hSw); go_simp; try with_reducible rfl)
          try simp only [Act.put, List.setIfInBounds_toArray, List.set_cons_zero, List.set_cons_succ]
          refine takeO 8 (some 28) (v := ?v53) rfl rfl (by kernel_rfl) (by kernel_rfl) (by kernel_rfl) (Or.inl ⟨by rfl, ?y53⟩) hHeld ?r53
          case y53 => (intro w' hSw; (try dsimp only at hSw); go_simp; try with_reducible rfl)
          try simp only [Act.put, List.setIfInBounds_toArray, List.set_cons_zero, List.set_cons_succ]
          refine takeO 9 (some 29) (v := ?v54) rfl rfl (by kernel_rfl) (by kernel_rfl) (by kernel_rfl) (Or.inl ⟨by rfl, ?y54⟩) hHeld ?r54
          case y54 => (intro w' hSw; (try dsimp only at hSw); go_simp; try with_reducible rfl)
          try simp only [Act.put, List.setIfInBounds_toArray, List.set_cons_zero, List.set_cons_succ]
          refine wpAnyH_ready (rs := [10]) (by kernel_rfl) (by simp) ?_
          refine AllReadyH.cons rfl (fun K hK => ?_) AllReadyH.nil
          go_simp
          refine (kg.out _ (below_drewN V1 1)).mono ?_
          rintro e V12 ⟨rfl, q12⟩
          dsimp only
          have HB12 : Below V1.heap.size V1 V12 := Below.trans (below_drewN V1 1) q12
          refine hK.out _ _ HB12 (fun hHeld => ?_)
          clear hK K q12
          refine takeO 11 (some 31) (v := ?v55) rfl rfl (by kernel_rfl) (by kernel_rfl) (by kernel_rfl) (Or.inl ⟨by rfl, ?y55⟩) hHeld ?r55
          case y55 => (intro w' hSw; (try dsimp only at hSw); go_simp; try with_reducible rfl)
          try simp only [Act.put, List.setIfInBounds_toArray, List.set_cons_zero, List.set_cons_succ]
          refine takeO 12 (some 32) (v := ?v56) rfl rfl (by kernel_rfl) (by kernel_rfl) (by kernel_rfl) (Or.inl ⟨by rfl, ?y56⟩) hHeld ?r56
          case y56 => (intro w' hSw; (try dsimp only at hSw); go_simp; try with_reducible rfl)
          try simp only [Act.put, List.setIfInBounds_toArray, List.set_cons_zero, List.set_cons_succ]
          refine wpAnyH_done (by kernel_rfl) (Only.on ?_) _
          clear hHeld
          go_wp2
          go_ret
          refine ⟨_, _, ?_, HAV.out.keep HB12, btrans HBV.out HB12⟩
          (rw [HLEN.out]) <;> rfl
      · obtain rfl : i = n := by omega
        have HQE := hid (show qs = ps.take i ++ (x1, x2) :: ps.drop i by
          rcases Hq.out with ⟨h, _⟩ | ⟨_, h⟩
          · have := HLEN.out; omega
          · exact h)
        go_upto_region 2 with fail
        refine region_held (fun w' => Below wr.heap.size wr w') 12 rfl (by kernel_rfl) (below_drewN wr 1) ?_
        intro hHeld
        refine takeO 0 (some 6) (v := ?v57) rfl rfl (by kernel_rfl) (by kernel_rfl) (by kernel_rfl) (Or.inl ⟨by rfl, ?y57⟩) hHeld ?r57
        case y57 => (intro w' hSw; (try dsimp only at hSw); go_simp; try with_reducible rfl)
        try simp only [Act.put, List.setIfInBounds_toArray, List.set_cons_zero, List.set_cons_succ]
        refine takeO 1 (some 7) (v := ?v58) rfl rfl (by kernel_rfl) (by kernel_rfl) (by kernel_rfl) (Or.inl ⟨by rfl, ?y58⟩) hHeld ?r58
        case y58 => (intro w' hSw; (try dsimp only at hSw); go_simp; try with_reducible rfl)
        try simp only [Act.put, List.setIfInBounds_toArray, List.set_cons_zero, List.set_cons_succ]
        refine takeO 2 (some 8) (v := ?v59) rfl rfl (by kernel_rfl) (by kernel_rfl) (by kernel_rfl) (Or.inl ⟨by rfl, ?y59⟩) hHeld ?r59
        case y59 => (intro w' hSw; (try dsimp only at hSw); go_simp; try with_reducible rfl)
        try simp only [Act.put, List.setIfInBounds_toArray, List.set_cons_zero, List.set_cons_succ]
        refine takeO 3 (some 9) (v := ?v60) rfl rfl (by kernel_rfl) (by kernel_rfl) (by kernel_rfl) (Or.inl ⟨by rfl, ?y60⟩) hHeld ?r60
        case y60 => (intro w' hSw; (try dsimp only at hSw); go_simp; try with_reducible rfl)
        try simp only [Act.put, List.setIfInBounds_toArray, List.set_cons_zero, List.set_cons_succ]
        refine takeO 4 (some 10) (v := ?v61) rfl rfl (by kernel_rfl) (by kernel_rfl) (by kernel_rfl) (Or.inl ⟨by rfl, ?y61⟩) hHeld ?r61
        case y61 => (intro w' hSw; (try dsimp only at hSw); go_simp; try with_reducible rfl)
        try simp only [Act.put, List.setIfInBounds_toArray, List.set_cons_zero, List.set_cons_succ]
        refine takeO 5 (some 11) rfl rfl (by kernel_rfl) (by kernel_rfl) (by kernel_rfl) (Or.inr ⟨by rfl, rfl⟩) hHeld ?_
        try simp only [Act.put, List.setIfInBounds_toArray, List.set_cons_zero, List.set_cons_succ]
        refine takeO 6 (some 12) rfl rfl (by kernel_rfl) (by kernel_rfl) (by kernel_rfl) (Or.inr ⟨by rfl, rfl⟩) hHeld ?_
        try simp only [Act.put, List.setIfInBounds_toArray, List.set_cons_zero, List.set_cons_succ]
        refine takeO 7 (some 13) rfl rfl (by kernel_rfl) (by kernel_rfl) (by kernel_rfl) (Or.inr ⟨by rfl, rfl⟩) hHeld ?_
        try simp only [Act.put, List.setIfInBounds_toArray, List.set_cons_zero, List.set_cons_succ]
        refine takeO 8 (some 14) rfl rfl (by kernel_rfl) (by kernel_rfl) (by kernel_rfl) (Or.inr ⟨by rfl, rfl⟩) hHeld ?_
        try simp only [Act.put, List.setIfInBounds_toArray, List.set_cons_zero, List.set_cons_succ]
        refine takeO 9 (some 15) rfl rfl (by kernel_rfl) (by kernel_rfl) (by kernel_rfl) (Or.inr ⟨by rfl, rfl⟩) hHeld ?_
        try simp only [Act.put, List.setIfInBounds_toArray, List.set_cons_zero, List.set_cons_succ]
        refine takeO 10 (some 16) rfl rfl (by kernel_rfl) (by kernel_rfl) (by kernel_rfl) (Or.inr ⟨by rfl, rfl⟩) hHeld ?_
        try simp only [Act.put, List.setIfInBounds_toArray, List.set_cons_zero, List.set_cons_succ]
        refine takeO 11 (some 17) (v := ?v62) rfl rfl (by kernel_rfl) (by kernel_rfl) (by kernel_rfl) (Or.inl ⟨by rfl, ?y62⟩) hHeld ?r62
        case y62 => (intro w' hSw; (try dsimp only at hSw); go_simp; try with_reducible rfl)
        try simp only [Act.put, List.setIfInBounds_toArray, List.set_cons_zero, List.set_cons_succ]
        refine wpAnyH_done (by kernel_rfl) (Only.on ?_) _
        clear hHeld
        have HB1 : Below wr.heap.size wr wr.drew := below_drewN wr 1
        generalize wr.drew = V1 at *
        go_upto_region 4 with fail
        have tb0 := stays (rb0 _ HB1); have tb1 := stays (rb1 _ HB1)
        clear rb0 rb1
        have HBV := hid (btrans HBX.out (btrans hB HB1))
        have HAV := hid (HA.out.keep (btrans hB HB1))
        clear HB1 hB
        refine region_held (fun w' => Below V1.heap.size V1 w') 13 rfl (by kernel_rfl) (below_drewN V1 1) ?_
        intro hHeld
        refine takeO 0 (some 20) (v := ?v63) rfl rfl (by kernel_rfl) (by kernel_rfl) (by kernel_rfl) (Or.inl ⟨by rfl, ?y63⟩) hHeld ?r63
        case y63 => (intro w' hSw; (try dsimp only at hSw); go_simp; try with_reducible rfl)
        try simp only [Act.put, List.setIfInBounds_toArray, List.set_cons_zero, List.set_cons_succ]
        refine takeO 1 (some 21) (v := ?v64) rfl rfl (by kernel_rfl) (by kernel_rfl) (by kernel_rfl) (Or.inl ⟨by rfl, ?y64⟩) hHeld ?r64
        case y64 => (intro w' hSw; (try dsimp only at hSw); go_simp; try with_reducible rfl)
        try simp only [Act.put, List.setIfInBounds_toArray, List.set_cons_zero, List.set_cons_succ]
        refine takeO 2 (some 22) (v := ?v65) rfl rfl (by kernel_rfl) (by kernel_rfl) (by kernel_rfl) (Or.inl ⟨by rfl, ?y65⟩) hHeld ?r65
        case y65 => (intro w' hSw; (try dsimp only at hSw); go_simp; try with_reducible rfl)
        try simp only [Act.put, List.setIfInBounds_toArray, List.set_cons_zero, List.set_cons_succ]
        refine takeO 3 (some 23) (v := ?v66) rfl rfl (by kernel_rfl) (by kernel_rfl) (by kernel_rfl) (Or.inl ⟨by rfl, ?y66⟩) hHeld ?r66
        case y66 => (intro w' hSw; (try dsimp only at hSw); go_simp; try with_reducible rfl)
        try simp only [Act.put, List.setIfInBounds_toArray, List.set_cons_zero, List.set_cons_succ]
        refine takeO 4 (some 24) (v := ?v67) rfl rfl (by kernel_rfl) (by kernel_rfl) (by kernel_rfl) (Or.inl ⟨by rfl, ?y67⟩) hHeld ?r67
        case y67 => (intro w' hSw; (try dsimp only at hSw); go_simp; try with_reducible rfl)
        try simp only [Act.put, List.setIfInBounds_toArray, List.set_cons_zero, List.set_cons_succ]
        refine takeO 5 (some 25) rfl rfl (by kernel_rfl) (by kernel_rfl) (by kernel_rfl) (Or.inr ⟨by rfl, rfl⟩) hHeld ?_
        try simp only [Act.put, List.setIfInBounds_toArray, List.set_cons_zero, List.set_cons_succ]
        refine takeO 6 (some 26) rfl rfl (by kernel_rfl) (by kernel_rfl) (by kernel_rfl) (Or.inr ⟨by rfl, rfl⟩) hHeld ?_
        try simp only [Act.put, List.setIfInBounds_toArray, List.set_cons_zero, List.set_cons_succ]
        refine takeO 7 (some 27) rfl rfl (by kernel_rfl) (by kernel_rfl) (by kernel_rfl) (Or.inr ⟨by rfl, rfl⟩) hHeld ?_
        try simp only [Act.put, List.setIfInBounds_toArray, List.set_cons_zero, List.set_cons_succ]
        refine takeO 8 (some 28) rfl rfl (by kernel_rfl) (by kernel_rfl) (by kernel_rfl) (Or.inr ⟨by rfl, rfl⟩) hHeld ?_
        try simp only [Act.put, List.setIfInBounds_toArray, List.set_cons_zero, List.set_cons_succ]
        refine takeO 9 (some 29) rfl rfl (by kernel_rfl) (by kernel_rfl) (by kernel_rfl) (Or.inr ⟨by rfl, rfl⟩) hHeld ?_
        try simp only [Act.put, List.setIfInBounds_toArray, List.set_cons_zero, List.set_cons_succ]
        refine takeO 10 (some 30) rfl rfl (by kernel_rfl) (by kernel_rfl) (by kernel_rfl) (Or.inr ⟨by rfl, rfl⟩) hHeld ?_
        try simp only [Act.put, List.setIfInBounds_toArray, List.set_cons_zero, List.set_cons_succ]
        refine takeO 11 (some 31) rfl rfl (by kernel_rfl) (by kernel_rfl) (by kernel_rfl) (Or.inr ⟨by rfl, rfl⟩) hHeld ?_
        try simp only [Act.put, List.setIfInBounds_toArray, List.set_cons_zero, List.set_cons_succ]
        refine takeO 12 (some 32) (v := ?v68) rfl rfl (by kernel_rfl) (by kernel_rfl) (by kernel_rfl) (Or.inl ⟨by rfl, ?y68⟩) hHeld ?r68
        case y68 => (intro w' hSw; (try dsimp only at hSw); go_simp; try with_reducible rfl)
        try simp only [Act.put, List.setIfInBounds_toArray, List.set_cons_zero, List.set_cons_succ]
        refine wpAnyH_done (by kernel_rfl) (Only.on ?_) _
        clear hHeld
        have HB12 : Below V1.heap.size V1 V1.drew := below_drewN V1 1
        generalize V1.drew = V12 at *
        go_upto_region 6 with fail
        have rb0 := stays (tb0 _ HB12); have rb1 := stays (tb1 _ HB12)
        clear tb0 tb1
        have HBW := hid (btrans HBV.out HB12)
        have HA := hid (HAV.out.keep HB12)
        clear HB12
        have hd0 : ps.drop i = [] := List.drop_eq_nil_iff.2 (by have := HLEN.out; omega)
        have hic : i ≤ cap := by omega
        by_cases hck : cap = i
        · subst hck
          have HDROP : Hid (SrcP V12 (some ⟨g, o, none⟩) (ps.drop cap)) := hid ⟨.inl hd0⟩
          have HDK : Hid ((ps.drop cap).length = 0) := hid (by rw [hd0]; rfl)
          clear hd0
          obtain ⟨cd, hcd⟩ : ∃ c, c = 0 := ⟨_, rfl⟩
          have HCD := hid hcd
          clear hcd
          -- at world V12, HBW : Hid (Below w.heap.size w V12), HA : Hid (ArgP V12 (some ⟨g, o, none⟩) cap ps), rb : rules of the box
          have HTAKE := hid (HA.out.src.take cap)
          refine region_held (fun w' => Below V12.heap.size V12 w') 13 rfl (by kernel_rfl) (below_drewN V12 1) ?_
          intro hHeld
          refine takeO 1 (some 35) (v := ?v69) rfl rfl (by kernel_rfl) (by kernel_rfl) (by kernel_rfl) (Or.inl ⟨by rfl, ?y69⟩) hHeld ?r69
          case y69 => (intro w' hSw; (try dsimp only at hSw); go_simp; try with_reducible rfl)
          try simp only [Act.put, List.setIfInBounds_toArray, List.set_cons_zero, List.set_cons_succ]
          refine takeO 2 (some 36) (v := ?v70) rfl rfl (by kernel_rfl) (by kernel_rfl) (by kernel_rfl) (Or.inl ⟨by rfl, ?y70⟩) hHeld ?r70
          case y70 => (intro w' hSw; (try dsimp only at hSw); go_simp; try with_reducible rfl)
          try simp only [Act.put, List.setIfInBounds_toArray, List.set_cons_zero, List.set_cons_succ]
          refine takeO 3 (some 37) (v := ?v71) rfl rfl (by kernel_rfl) (by kernel_rfl) (by kernel_rfl) (Or.inl ⟨by rfl, ?y71⟩) hHeld ?r71
          case y71 => (intro w' hSw; (try dsimp only at hSw); go_simp; try with_reducible rfl)
          try simp only [Act.put, List.setIfInBounds_toArray, List.set_cons_zero, List.set_cons_succ]
          refine takeO 5 (some 39) (v := ?v72) rfl rfl (by kernel_rfl) (by kernel_rfl) (by kernel_rfl) (Or.inl ⟨by rfl, ?y72⟩) hHeld ?r72
          case y72 => (intro w' hSw; (try dsimp only at hSw); go_simp; try with_reducible rfl)
          try simp only [Act.put, List.setIfInBounds_toArray, List.set_cons_zero, List.set_cons_succ]
          refine takeO 8 (some 42) (v := ?v73) rfl rfl (by kernel_rfl) (by kernel_rfl) (by kernel_rfl) (Or.inl ⟨by rfl, ?y73⟩) hHeld ?r73
          case y73 => (intro w' hSw; (try dsimp only at hSw); go_simp; try with_reducible rfl)
          try simp only [Act.put, List.setIfInBounds_toArray, List.set_cons_zero, List.set_cons_succ]
          refine takeO 9 (some 43) (v := ?v74) rfl rfl (by kernel_rfl) (by kernel_rfl) (by kernel_rfl) (Or.inl ⟨by rfl, ?y74⟩) hHeld ?r74
          case y74 => (intro w' hSw; (try dsimp only at hSw); go_simp; try with_reducible rfl)
          try simp only [Act.put, List.setIfInBounds_toArray, List.set_cons_zero, List.set_cons_succ]
          refine takeO 10 (some 44) (v := ?v75) rfl rfl (by kernel_rfl) (by kernel_rfl) (by kernel_rfl) (Or.inl ⟨by rfl, ?y75⟩) hHeld ?r75
          case y75 => (intro w' hSw; (try dsimp only at hSw); go_simp; try with_reducible rfl)
          try simp only [Act.put, List.setIfInBounds_toArray, List.set_cons_zero, List.set_cons_succ]
          try simp only [if_neg hck]
          refine wpAnyH_ready (rs := [0, 6]) (by kernel_rfl) (by simp) ?_
          refine AllReadyH.cons rfl (fun K hK => ?_) (AllReadyH.cons rfl (fun K hK => ?_) AllReadyH.nil)
          · go_simp
            have row1 : RowP (V12.alloc (.cells #[] 64)).drew V12.heap.size (.slice (some ⟨V12.heap.size, 0, none⟩) 0 0) [] := (rowP_new V12).keep (below_drewN _ 1)
            have hB1 : Below V12.heap.size V12 (V12.alloc (.cells #[] 64)).drew := ((Below.refl _ _).alloc (Nat.le_refl _) _).drew
            have hg1 : V12.heap.size < (V12.alloc (.cells #[] 64)).drew.heap.size := by show V12.heap.size < (V12.alloc (.cells #[] 64)).heap.size; simp
            generalize (V12.alloc (.cells #[] 64)).drew = X1 at *
            refine hK.out _ _ hB1 (fun hHeld => ?_)
            clear hK K
            refine wpAnyH_ready (rs := [4, 6]) (by kernel_rfl) (by simp) ?_
            refine AllReadyH.cons rfl (fun K hK => ?_) (AllReadyH.cons rfl (fun K hK => ?_) AllReadyH.nil)
            · obtain ⟨a2, c2', X2, r2, row2, b2, _⟩ := appendP (cap := cap) 65 row1 (HTAKE.out.keep hB1) hB1.size (by have := HTL.out; simp; omega)
              rw [List.nil_append, HTL.out] at r2
              rw [List.nil_append, HTL.out] at row2
              have hB2 := hB1.trans b2
              clear row1 b2
              refine step_append_run (by rfl) _ _ 65 65 (by rfl) _ _ (by rfl) (by rfl) _ _ r2 ?_
              change K (Act.put _ (some 38) _) _
              simp only [Act.put, List.setIfInBounds_toArray, List.set_cons_zero, List.set_cons_succ]
              refine hK.out _ _ hB2 (fun hHeld => ?_)
              clear hK K r2
              refine wpAnyH_ready (rs := [6]) (by kernel_rfl) (by simp) ?_
              refine AllReadyH.cons rfl (fun K hK => ?_) AllReadyH.nil
              go_simp
              have src := srcP_one X2 x1 x2
              have hbb : Below X2.heap.size X2 (X2.alloc (.cells #[.int .i64 x1, .int .i64 x2] 64)) := (Below.refl _ _).alloc (Nat.le_refl _) _
              have row := row2.keep hbb
              have hB := hB2.trans (hbb.mono hB2.size)
              obtain ⟨sb, hsb⟩ : ∃ sb, X2.heap.size = sb := ⟨_, rfl⟩
              rw [hsb] at src ⊢
              generalize X2.alloc (.cells #[.int .i64 x1, .int .i64 x2] 64) = X3 at *
              clear row2 hB2 hbb
              refine hK.out _ _ hB (fun hHeld => ?_)
              clear hK K
              -- both laid: at world X: row : RowP X W.heap.size (.slice a2 m c2') (ps.take cap), src : SrcP X (some ⟨sb, 0, none⟩) [(x1, x2)], hB : Below W.heap.size W X
              obtain ⟨a4, c4, X4, r4, row4, b4, _⟩ := appendP (cap := 1) 65 row src hB.size (by have := HTL.out; simp; omega)
              have e4 : ([(x1, x2)] : List (Int × Int)).length = 1 := rfl
              rw [e4] at r4
              have hB4 := hB.trans b4
              obtain ⟨m4, hm4⟩ : ∃ m4, (ps.take cap ++ [(x1, x2)]).length = m4 := ⟨_, rfl⟩
              rw [hm4] at r4 row4
              have ROW4 := hid row4
              have HM4 := hid hm4
              clear hm4 e4 src row b4
              refine wpAnyH_ready (rs := [7]) (by kernel_rfl) (by simp) ?_
              refine AllReadyH.cons rfl (fun K hK => ?_) AllReadyH.nil
              refine step_append_run (by rfl) _ _ 65 65 (by rfl) _ _ (by rfl) (by rfl) _ _ r4 ?_
              change K (Act.put _ (some 41) _) _
              simp only [Act.put, List.setIfInBounds_toArray, List.set_cons_zero, List.set_cons_succ]
              refine hK.out _ _ hB4 (fun hHeld => ?_)
              clear hK K r4
              obtain ⟨a5, c5, X5, r5, row5, b5, _⟩ := appendP (cap := cd) 65 ROW4.out (HDROP.out.keep hB4) hB4.size (by have := HTL.out; have := HDK.out; rw [List.length_append]; simp only [List.length_cons, List.length_nil]; omega)
              have hB5 := hB4.trans b5
              rw [HDK.out, HCD.out] at r5
              rw [show ps.take cap ++ [(x1, x2)] ++ ps.drop cap = qs by rw [HQE.out]; simp] at r5 row5
              obtain ⟨m5, hm5⟩ : ∃ m5, qs.length = m5 := ⟨_, rfl⟩
              have ROW5 := hid row5
              rw [hm5] at r5
              have HM5 := hid hm5
              clear hm5 row5 b5
              refine wpAnyH_ready (rs := [11]) (by kernel_rfl) (by simp) ?_
              refine AllReadyH.cons rfl (fun K hK => ?_) AllReadyH.nil
              refine step_append_run (by rfl) _ _ 65 65 (by rfl) _ _ (by rfl) (by rfl) _ _ r5 ?_
              change K (Act.put _ (some 45) _) _
              simp only [Act.put, List.setIfInBounds_toArray, List.set_cons_zero, List.set_cons_succ]
              refine hK.out _ _ hB5 (fun hHeld => ?_)
              clear hK K r5
              refine takeO 12 (some 4) (v := ?v76) rfl rfl (by kernel_rfl) (by kernel_rfl) (by kernel_rfl) (Or.inl ⟨by rfl, ?y76⟩) hHeld ?r76
              case y76 => (intro w' hSw; (try dsimp only at hSw); go_simp; try with_reducible rfl)
              try simp only [Act.put, List.setIfInBounds_toArray, List.set_cons_zero, List.set_cons_succ]
              refine wpAnyH_done (by kernel_rfl) (Only.on ?_) _
              clear hHeld
              go_wp2
              go_ret
              obtain ⟨aa, cc, evv, hArg⟩ := ROW5.out.form
              cases evv
              refine ⟨_, _, ?_, hArg, btrans HBW.out hB5⟩
              (rw [HM5.out]) <;> rfl
            · go_simp
              have src0 := srcP_one X1 x1 x2
              have hbb : Below X1.heap.size X1 (X1.alloc (.cells #[.int .i64 x1, .int .i64 x2] 64)) := (Below.refl _ _).alloc (Nat.le_refl _) _
              have row0 := row1.keep hbb
              have hB0 := hB1.trans (hbb.mono hB1.size)
              obtain ⟨sb, hsb⟩ : ∃ sb, X1.heap.size = sb := ⟨_, rfl⟩
              rw [hsb] at src0 hg1 ⊢
              generalize X1.alloc (.cells #[.int .i64 x1, .int .i64 x2] 64) = X2 at *
              clear row1 hB1 hbb
              refine hK.out _ _ hB0 (fun hHeld => ?_)
              clear hK K
              refine wpAnyH_ready (rs := [4]) (by kernel_rfl) (by simp) ?_
              refine AllReadyH.cons rfl (fun K hK => ?_) AllReadyH.nil
              obtain ⟨a2, c2', X3, r2, row, b2, f2⟩ := appendP (cap := cap) 65 row0 (HTAKE.out.keep hB0) hB0.size (by have := HTL.out; simp; omega)
              rw [List.nil_append, HTL.out] at r2
              rw [List.nil_append, HTL.out] at row
              have hB := hB0.trans b2
              have src := src0.fr f2 (fun ad had => by cases had; intro e; have e2 : V12.heap.size = sb := Option.some.inj e; omega)
              clear row0 b2 f2 src0 hB0
              refine step_append_run (by rfl) _ _ 65 65 (by rfl) _ _ (by rfl) (by rfl) _ _ r2 ?_
              change K (Act.put _ (some 38) _) _
              simp only [Act.put, List.setIfInBounds_toArray, List.set_cons_zero, List.set_cons_succ]
              refine hK.out _ _ hB (fun hHeld => ?_)
              clear hK K r2
              -- both laid: at world X: row : RowP X W.heap.size (.slice a2 m c2') (ps.take cap), src : SrcP X (some ⟨sb, 0, none⟩) [(x1, x2)], hB : Below W.heap.size W X
              obtain ⟨a4, c4, X4, r4, row4, b4, _⟩ := appendP (cap := 1) 65 row src hB.size (by have := HTL.out; simp; omega)
              have e4 : ([(x1, x2)] : List (Int × Int)).length = 1 := rfl
              rw [e4] at r4
              have hB4 := hB.trans b4
              obtain ⟨m4, hm4⟩ : ∃ m4, (ps.take cap ++ [(x1, x2)]).length = m4 := ⟨_, rfl⟩
              rw [hm4] at r4 row4
              have ROW4 := hid row4
              have HM4 := hid hm4
              clear hm4 e4 src row b4
              refine wpAnyH_ready (rs := [7]) (by kernel_rfl) (by simp) ?_
              refine AllReadyH.cons rfl (fun K hK => ?_) AllReadyH.nil
              refine step_append_run (by rfl) _ _ 65 65 (by rfl) _ _ (by rfl) (by rfl) _ _ r4 ?_
              change K (Act.put _ (some 41) _) _
              simp only [Act.put, List.setIfInBounds_toArray, List.set_cons_zero, List.set_cons_succ]
              refine hK.out _ _ hB4 (fun hHeld => ?_)
              clear hK K r4
              obtain ⟨a5, c5, X5, r5, row5, b5, _⟩ := appendP (cap := cd) 65 ROW4.out (HDROP.out.keep hB4) hB4.size (by have := HTL.out; have := HDK.out; rw [List.length_append]; simp only [List.length_cons, List.length_nil]; omega)
              have hB5 := hB4.trans b5
              rw [HDK.out, HCD.out] at r5
              rw [show ps.take cap ++ [(x1, x2)] ++ ps.drop cap = qs by rw [HQE.out]; simp] at r5 row5
              obtain ⟨m5, hm5⟩ : ∃ m5, qs.length = m5 := ⟨_, rfl⟩
              have ROW5 := hid row5
              rw [hm5] at r5
              have HM5 := hid hm5
              clear hm5 row5 b5
              refine wpAnyH_ready (rs := [11]) (by kernel_rfl) (by simp) ?_
              refine AllReadyH.cons rfl (fun K hK => ?_) AllReadyH.nil
              refine step_append_run (by rfl) _ _ 65 65 (by rfl) _ _ (by rfl) (by rfl) _ _ r5 ?_
              change K (Act.put _ (some 45) _) _
              simp only [Act.put, List.setIfInBounds_toArray, List.set_cons_zero, List.set_cons_succ]
              refine hK.out _ _ hB5 (fun hHeld => ?_)
              clear hK K r5
              refine takeO 12 (some 4) (v := ?v77) rfl rfl (by kernel_rfl) (by kernel_rfl) (by kernel_rfl) (Or.inl ⟨by rfl, ?y77⟩) hHeld ?r77
              case y77 => (intro w' hSw; (try dsimp only at hSw); go_simp; try with_reducible rfl)
              try simp only [Act.put, List.setIfInBounds_toArray, List.set_cons_zero, List.set_cons_succ]
              refine wpAnyH_done (by kernel_rfl) (Only.on ?_) _
              clear hHeld
              go_wp2
              go_ret
              obtain ⟨aa, cc, evv, hArg⟩ := ROW5.out.form
              cases evv
              refine ⟨_, _, ?_, hArg, btrans HBW.out hB5⟩
              (rw [HM5.out]) <;> rfl
          · go_simp
            have src1 : SrcP (V12.alloc (.cells #[.int .i64 x1, .int .i64 x2] 64)).drew (some ⟨V12.heap.size, 0, none⟩) [(x1, x2)] := (srcP_one V12 x1 x2).keep (below_drewN _ 1)
            have hB1 : Below V12.heap.size V12 (V12.alloc (.cells #[.int .i64 x1, .int .i64 x2] 64)).drew := ((Below.refl _ _).alloc (Nat.le_refl _) _).drew
            have hg1 : V12.heap.size < (V12.alloc (.cells #[.int .i64 x1, .int .i64 x2] 64)).drew.heap.size := by show V12.heap.size < (V12.alloc (.cells #[.int .i64 x1, .int .i64 x2] 64)).heap.size; simp
            generalize (V12.alloc (.cells #[.int .i64 x1, .int .i64 x2] 64)).drew = X1 at *
            refine hK.out _ _ hB1 (fun hHeld => ?_)
            clear hK K
            refine wpAnyH_ready (rs := [0]) (by kernel_rfl) (by simp) ?_
            refine AllReadyH.cons rfl (fun K hK => ?_) AllReadyH.nil
            go_simp
            have row0 : RowP (X1.alloc (.cells #[] 64)) V12.heap.size (.slice (some ⟨X1.heap.size, 0, none⟩) 0 0) [] := (rowP_new X1).base hB1.size
            have hbb : Below X1.heap.size X1 (X1.alloc (.cells #[] 64)) := (Below.refl _ _).alloc (Nat.le_refl _) _
            have src0 := src1.keep hbb
            have hB0 := hB1.trans (hbb.mono hB1.size)
            obtain ⟨sb, hsb⟩ : ∃ sb, X1.heap.size = sb := ⟨_, rfl⟩
            rw [hsb] at row0 hg1 ⊢
            generalize X1.alloc (.cells #[] 64) = X2 at *
            clear src1 hB1 hbb
            refine hK.out _ _ hB0 (fun hHeld => ?_)
            clear hK K
            refine wpAnyH_ready (rs := [4]) (by kernel_rfl) (by simp) ?_
            refine AllReadyH.cons rfl (fun K hK => ?_) AllReadyH.nil
            obtain ⟨a2, c2', X3, r2, row, b2, f2⟩ := appendP (cap := cap) 65 row0 (HTAKE.out.keep hB0) hB0.size (by have := HTL.out; simp; omega)
            rw [List.nil_append, HTL.out] at r2
            rw [List.nil_append, HTL.out] at row
            have hB := hB0.trans b2
            have src := src0.fr f2 (fun ad had => by cases had; intro e; have e2 : sb = V12.heap.size := Option.some.inj e; omega)
            clear row0 b2 f2 src0 hB0
            refine step_append_run (by rfl) _ _ 65 65 (by rfl) _ _ (by rfl) (by rfl) _ _ r2 ?_
            change K (Act.put _ (some 38) _) _
            simp only [Act.put, List.setIfInBounds_toArray, List.set_cons_zero, List.set_cons_succ]
            refine hK.out _ _ hB (fun hHeld => ?_)
            clear hK K r2
            -- both laid: at world X: row : RowP X W.heap.size (.slice a2 m c2') (ps.take cap), src : SrcP X (some ⟨sb, 0, none⟩) [(x1, x2)], hB : Below W.heap.size W X
            obtain ⟨a4, c4, X4, r4, row4, b4, _⟩ := appendP (cap := 1) 65 row src hB.size (by have := HTL.out; simp; omega)
            have e4 : ([(x1, x2)] : List (Int × Int)).length = 1 := rfl
            rw [e4] at r4
            have hB4 := hB.trans b4
            obtain ⟨m4, hm4⟩ : ∃ m4, (ps.take cap ++ [(x1, x2)]).length = m4 := ⟨_, rfl⟩
            rw [hm4] at r4 row4
            have ROW4 := hid row4
            have HM4 := hid hm4
            clear hm4 e4 src row b4
            refine wpAnyH_ready (rs := [7]) (by kernel_rfl) (by simp) ?_
            refine AllReadyH.cons rfl (fun K hK => ?_) AllReadyH.nil
            refine step_append_run (by rfl) _ _ 65 65 (by rfl) _ _ (by rfl) (by rfl) _ _ r4 ?_
            change K (Act.put _ (some 41) _) _
            simp only [Act.put, List.setIfInBounds_toArray, List.set_cons_zero, List.set_cons_succ]
            refine hK.out _ _ hB4 (fun hHeld => ?_)
            clear hK K r4
            obtain ⟨a5, c5, X5, r5, row5, b5, _⟩ := appendP (cap := cd) 65 ROW4.out (HDROP.out.keep hB4) hB4.size (by have := HTL.out; have := HDK.out; rw [List.length_append]; simp only [List.length_cons, List.length_nil]; omega)
            have hB5 := hB4.trans b5
            rw [HDK.out, HCD.out] at r5
            rw [show ps.take cap ++ [(x1, x2)] ++ ps.drop cap = qs by rw [HQE.out]; simp] at r5 row5
            obtain ⟨m5, hm5⟩ : ∃ m5, qs.length = m5 := ⟨_, rfl⟩
            have ROW5 := hid row5
            rw [hm5] at r5
            have HM5 := hid hm5
            clear hm5 row5 b5
            refine wpAnyH_ready (rs := [11]) (by kernel_rfl) (by simp) ?_
            refine AllReadyH.cons rfl (fun K hK => ?_) AllReadyH.nil
            refine step_append_run (by rfl) _ _ 65 65 (by rfl) _ _ (by rfl) (by rfl) _ _ r5 ?_
            change K (Act.put _ (some 45) _) _
            simp only [Act.put, List.setIfInBounds_toArray, List.set_cons_zero, List.set_cons_succ]
            refine hK.out _ _ hB5 (fun hHeld => ?_)
            clear hK K r5
            refine takeO 12 (some 4) (v := ?v78) rfl rfl (by kernel_rfl) (by kernel_rfl) (by kernel_rfl) (Or.inl ⟨by rfl, ?y78⟩) hHeld ?r78
            case y78 => (intro w' hSw; (try dsimp only at hSw); go_simp; try with_reducible rfl)
            try simp only [Act.put, List.setIfInBounds_toArray, List.set_cons_zero, List.set_cons_succ]
            refine wpAnyH_done (by kernel_rfl) (Only.on ?_) _
            clear hHeld
            go_wp2
            go_ret
            obtain ⟨aa, cc, evv, hArg⟩ := ROW5.out.form
            cases evv
            refine ⟨_, _, ?_, hArg, btrans HBW.out hB5⟩
            (rw [HM5.out]) <;> rfl
        · have HDROP : Hid (SrcP V12 (some ⟨g, o + i * 2, none⟩) (ps.drop i)) := hid ⟨.inl hd0⟩
          have HDK : Hid ((ps.drop i).length = 0) := hid (by rw [hd0]; rfl)
          obtain ⟨cd, hcd⟩ : ∃ c, c = cap - i := ⟨_, rfl⟩
          have HCD := hid hcd
          clear hcd
          clear hd0
          -- at world V12, HBW : Hid (Below w.heap.size w V12), HA : Hid (ArgP V12 (some ⟨g, o, none⟩) cap ps), rb : rules of the box
          have HTAKE := hid (HA.out.src.take i)
          refine region_held (fun w' => Below V12.heap.size V12 w') 13 rfl (by kernel_rfl) (below_drewN V12 1) ?_
          intro hHeld
          refine takeO 1 (some 35) (v := ?v79) rfl rfl (by kernel_rfl) (by kernel_rfl) (by kernel_rfl) (Or.inl ⟨by rfl, ?y79⟩) hHeld ?r79
          case y79 => (intro w' hSw; (try dsimp only at hSw); go_simp; try with_reducible rfl)
          try simp only [Act.put, List.setIfInBounds_toArray, List.set_cons_zero, List.set_cons_succ]
          refine takeO 2 (some 36) (v := ?v80) rfl rfl (by kernel_rfl) (by kernel_rfl) (by kernel_rfl) (Or.inl ⟨by rfl, ?y80⟩) hHeld ?r80
          case y80 => (intro w' hSw; (try dsimp only at hSw); go_simp; try with_reducible rfl)
          try simp only [Act.put, List.setIfInBounds_toArray, List.set_cons_zero, List.set_cons_succ]
          refine takeO 3 (some 37) (v := ?v81) rfl rfl (by kernel_rfl) (by kernel_rfl) (by kernel_rfl) (Or.inl ⟨by rfl, ?y81⟩) hHeld ?r81
          case y81 => (intro w' hSw; (try dsimp only at hSw); go_simp; try with_reducible rfl)
          try simp only [Act.put, List.setIfInBounds_toArray, List.set_cons_zero, List.set_cons_succ]
          refine takeO 5 (some 39) (v := ?v82) rfl rfl (by kernel_rfl) (by kernel_rfl) (by kernel_rfl) (Or.inl ⟨by rfl, ?y82⟩) hHeld ?r82
          case y82 => (intro w' hSw; (try dsimp only at hSw); go_simp; try with_reducible rfl)
          try simp only [Act.put, List.setIfInBounds_toArray, List.set_cons_zero, List.set_cons_succ]
          refine takeO 8 (some 42) (v := ?v83) rfl rfl (by kernel_rfl) (by kernel_rfl) (by kernel_rfl) (Or.inl ⟨by rfl, ?y83⟩) hHeld ?r83
          case y83 => (intro w' hSw; (try dsimp only at hSw); go_simp; try with_reducible rfl)
          try simp only [Act.put, List.setIfInBounds_toArray, List.set_cons_zero, List.set_cons_succ]
          refine takeO 9 (some 43) (v := ?v84) rfl rfl (by kernel_rfl) (by kernel_rfl) (by kernel_rfl) (Or.inl ⟨by rfl, ?y84⟩) hHeld ?r84
          case y84 => (intro w' hSw; (try dsimp only at hSw); go_simp; try with_reducible rfl)
          try simp only [Act.put, List.setIfInBounds_toArray, List.set_cons_zero, List.set_cons_succ]
          refine takeO 10 (some 44) (v := ?v85) rfl rfl (by kernel_rfl) (by kernel_rfl) (by kernel_rfl) (Or.inl ⟨by rfl, ?y85⟩) hHeld ?r85
          case y85 => (intro w' hSw; (try dsimp only at hSw); go_simp; try with_reducible rfl)
          try simp only [Act.put, List.setIfInBounds_toArray, List.set_cons_zero, List.set_cons_succ]
          try simp only [if_neg hck]
          refine wpAnyH_ready (rs := [0, 6]) (by kernel_rfl) (by simp) ?_
          refine AllReadyH.cons rfl (fun K hK => ?_) (AllReadyH.cons rfl (fun K hK => ?_) AllReadyH.nil)
          · go_simp
            have row1 : RowP (V12.alloc (.cells #[] 64)).drew V12.heap.size (.slice (some ⟨V12.heap.size, 0, none⟩) 0 0) [] := (rowP_new V12).keep (below_drewN _ 1)
            have hB1 : Below V12.heap.size V12 (V12.alloc (.cells #[] 64)).drew := ((Below.refl _ _).alloc (Nat.le_refl _) _).drew
            have hg1 : V12.heap.size < (V12.alloc (.cells #[] 64)).drew.heap.size := by show V12.heap.size < (V12.alloc (.cells #[] 64)).heap.size; simp
            generalize (V12.alloc (.cells #[] 64)).drew = X1 at *
            refine hK.out _ _ hB1 (fun hHeld => ?_)
            clear hK K
            refine wpAnyH_ready (rs := [4, 6]) (by kernel_rfl) (by simp) ?_
            refine AllReadyH.cons rfl (fun K hK => ?_) (AllReadyH.cons rfl (fun K hK => ?_) AllReadyH.nil)
            · obtain ⟨a2, c2', X2, r2, row2, b2, _⟩ := appendP (cap := cap) 65 row1 (HTAKE.out.keep hB1) hB1.size (by have := HTL.out; simp; omega)
              rw [List.nil_append, HTL.out] at r2
              rw [List.nil_append, HTL.out] at row2
              have hB2 := hB1.trans b2
              clear row1 b2
              refine step_append_run (by rfl) _ _ 65 65 (by rfl) _ _ (by rfl) (by rfl) _ _ r2 ?_
              change K (Act.put _ (some 38) _) _
              simp only [Act.put, List.setIfInBounds_toArray, List.set_cons_zero, List.set_cons_succ]
              refine hK.out _ _ hB2 (fun hHeld => ?_)
              clear hK K r2
              refine wpAnyH_ready (rs := [6]) (by kernel_rfl) (by simp) ?_
              refine AllReadyH.cons rfl (fun K hK => ?_) AllReadyH.nil
              go_simp
              have src := srcP_one X2 x1 x2
              have hbb : Below X2.heap.size X2 (X2.alloc (.cells #[.int .i64 x1, .int .i64 x2] 64)) := (Below.refl _ _).alloc (Nat.le_refl _) _
              have row := row2.keep hbb
              have hB := hB2.trans (hbb.mono hB2.size)
              obtain ⟨sb, hsb⟩ : ∃ sb, X2.heap.size = sb := ⟨_, rfl⟩
              rw [hsb] at src ⊢
              generalize X2.alloc (.cells #[.int .i64 x1, .int .i64 x2] 64) = X3 at *
              clear row2 hB2 hbb
              refine hK.out _ _ hB (fun hHeld => ?_)
              clear hK K
              -- both laid: at world X: row : RowP X W.heap.size (.slice a2 m c2') (ps.take i), src : SrcP X (some ⟨sb, 0, none⟩) [(x1, x2)], hB : Below W.heap.size W X
              obtain ⟨a4, c4, X4, r4, row4, b4, _⟩ := appendP (cap := 1) 65 row src hB.size (by have := HTL.out; simp; omega)
              have e4 : ([(x1, x2)] : List (Int × Int)).length = 1 := rfl
              rw [e4] at r4
              have hB4 := hB.trans b4
              obtain ⟨m4, hm4⟩ : ∃ m4, (ps.take i ++ [(x1, x2)]).length = m4 := ⟨_, rfl⟩
              rw [hm4] at r4 row4
              have ROW4 := hid row4
              have HM4 := hid hm4
              clear hm4 e4 src row b4
              refine wpAnyH_ready (rs := [7]) (by kernel_rfl) (by simp) ?_
              refine AllReadyH.cons rfl (fun K hK => ?_) AllReadyH.nil
              refine step_append_run (by rfl) _ _ 65 65 (by rfl) _ _ (by rfl) (by rfl) _ _ r4 ?_
              change K (Act.put _ (some 41) _) _
              simp only [Act.put, List.setIfInBounds_toArray, List.set_cons_zero, List.set_cons_succ]
              refine hK.out _ _ hB4 (fun hHeld => ?_)
              clear hK K r4
              obtain ⟨a5, c5, X5, r5, row5, b5, _⟩ := appendP (cap := cd) 65 ROW4.out (HDROP.out.keep hB4) hB4.size (by have := HTL.out; have := HDK.out; rw [List.length_append]; simp only [List.length_cons, List.length_nil]; omega)
              have hB5 := hB4.trans b5
              rw [HDK.out, HCD.out] at r5
              rw [show ps.take i ++ [(x1, x2)] ++ ps.drop i = qs by rw [HQE.out]; simp] at r5 row5
              obtain ⟨m5, hm5⟩ : ∃ m5, qs.length = m5 := ⟨_, rfl⟩
              have ROW5 := hid row5
              rw [hm5] at r5
              have HM5 := hid hm5
              clear hm5 row5 b5
              refine wpAnyH_ready (rs := [11]) (by kernel_rfl) (by simp) ?_
              refine AllReadyH.cons rfl (fun K hK => ?_) AllReadyH.nil
              refine step_append_run (by rfl) _ _ 65 65 (by rfl) _ _ (by rfl) (by rfl) _ _ r5 ?_
              change K (Act.put _ (some 45) _) _
              simp only [Act.put, List.setIfInBounds_toArray, List.set_cons_zero, List.set_cons_succ]
              refine hK.out _ _ hB5 (fun hHeld => ?_)
              clear hK K r5
              refine takeO 12 (some 4) (v := ?v86) rfl rfl (by kernel_rfl) (by kernel_rfl) (by kernel_rfl) (Or.inl ⟨by rfl, ?y86⟩) hHeld ?r86
              case y86 => (intro w' hSw; (try dsimp only at hSw); go_simp; try with_reducible rfl)
              try simp only [Act.put, List.setIfInBounds_toArray, List.set_cons_zero, List.set_cons_succ]
              refine wpAnyH_done (by kernel_rfl) (Only.on ?_) _
              clear hHeld
              go_wp2
              go_ret
              obtain ⟨aa, cc, evv, hArg⟩ := ROW5.out.form
              cases evv
              refine ⟨_, _, ?_, hArg, btrans HBW.out hB5⟩
              (rw [HM5.out]) <;> rfl
            · go_simp
              have src0 := srcP_one X1 x1 x2
              have hbb : Below X1.heap.size X1 (X1.alloc (.cells #[.int .i64 x1, .int .i64 x2] 64)) := (Below.refl _ _).alloc (Nat.le_refl _) _
              have row0 := row1.keep hbb
              have hB0 := hB1.trans (hbb.mono hB1.size)
              obtain ⟨sb, hsb⟩ : ∃ sb, X1.heap.size = sb := ⟨_, rfl⟩
              rw [hsb] at src0 hg1 ⊢
              generalize X1.alloc (.cells #[.int .i64 x1, .int .i64 x2] 64) = X2 at *
              clear row1 hB1 hbb
              refine hK.out _ _ hB0 (fun hHeld => ?_)
              clear hK K
              refine wpAnyH_ready (rs := [4]) (by kernel_rfl) (by simp) ?_
              refine AllReadyH.cons rfl (fun K hK => ?_) AllReadyH.nil
              obtain ⟨a2, c2', X3, r2, row, b2, f2⟩ := appendP (cap := cap) 65 row0 (HTAKE.out.keep hB0) hB0.size (by have := HTL.out; simp; omega)
              rw [List.nil_append, HTL.out] at r2
              rw [List.nil_append, HTL.out] at row
              have hB := hB0.trans b2
              have src := src0.fr f2 (fun ad had => by cases had; intro e; have e2 : V12.heap.size = sb := Option.some.inj e; omega)
              clear row0 b2 f2 src0 hB0
              refine step_append_run (by rfl) _ _ 65 65 (by rfl) _ _ (by rfl) (by rfl) _ _ r2 ?_
              change K (Act.put _ (some 38) _) _
              simp only [Act.put, List.setIfInBounds_toArray, List.set_cons_zero, List.set_cons_succ]
              refine hK.out _ _ hB (fun hHeld => ?_)
              clear hK K r2
              -- both laid: at world X: row : RowP X W.heap.size (.slice a2 m c2') (ps.take i), src : SrcP X (some ⟨sb, 0, none⟩) [(x1, x2)], hB : Below W.heap.size W X
              obtain ⟨a4, c4, X4, r4, row4, b4, _⟩ := appendP (cap := 1) 65 row src hB.size (by have := HTL.out; simp; omega)
              have e4 : ([(x1, x2)] : List (Int × Int)).length = 1 := rfl
              rw [e4] at r4
              have hB4 := hB.trans b4
              obtain ⟨m4, hm4⟩ : ∃ m4, (ps.take i ++ [(x1, x2)]).length = m4 := ⟨_, rfl⟩
              rw [hm4] at r4 row4
              have ROW4 := hid row4
              have HM4 := hid hm4
              clear hm4 e4 src row b4
              refine wpAnyH_ready (rs := [7]) (by kernel_rfl) (by simp) ?_
              refine AllReadyH.cons rfl (fun K hK => ?_) AllReadyH.nil
              refine step_append_run (by rfl) _ _ 65 65 (by rfl) _ _ (by rfl) (by rfl) _ _ r4 ?_
              change K (Act.put _ (some 41) _) _
              simp only [Act.put, List.setIfInBounds_toArray, List.set_cons_zero, List.set_cons_succ]
              refine hK.out _ _ hB4 (fun hHeld => ?_)
              clear hK K r4
              obtain ⟨a5, c5, X5, r5, row5, b5, _⟩ := appendP (cap := cd) 65 ROW4.out (HDROP.out.keep hB4) hB4.size (by have := HTL.out; have := HDK.out; rw [List.length_append]; simp only [List.length_cons, List.length_nil]; omega)
              have hB5 := hB4.trans b5
              rw [HDK.out, HCD.out] at r5
              rw [show ps.take i ++ [(x1, x2)] ++ ps.drop i = qs by rw [HQE.out]; simp] at r5 row5
              obtain ⟨m5, hm5⟩ : ∃ m5, qs.length = m5 := ⟨_, rfl⟩
              have ROW5 := hid row5
              rw [hm5] at r5
              have HM5 := hid hm5
              clear hm5 row5 b5
              refine wpAnyH_ready (rs := [11]) (by kernel_rfl) (by simp) ?_
              refine AllReadyH.cons rfl (fun K hK => ?_) AllReadyH.nil
              refine step_append_run (by rfl) _ _ 65 65 (by rfl) _ _ (by rfl) (by rfl) _ _ r5 ?_
              change K (Act.put _ (some 45) _) _
              simp only [Act.put, List.setIfInBounds_toArray, List.set_cons_zero, List.set_cons_succ]
              refine hK.out _ _ hB5 (fun hHeld => ?_)
              clear hK K r5
              refine takeO 12 (some 4) (v := ?v87) rfl rfl (by kernel_rfl) (by kernel_rfl) (by kernel_rfl) (Or.inl ⟨by rfl, ?y87⟩) hHeld ?r87
              case y87 => (intro w' hSw; (try dsimp only at hSw); go_simp; try with_reducible rfl)
              try simp only [Act.put, List.setIfInBounds_toArray, List.set_cons_zero, List.set_cons_succ]
              refine wpAnyH_done (by kernel_rfl) (Only.on ?_) _
              clear hHeld
              go_wp2
              go_ret
              obtain ⟨aa, cc, evv, hArg⟩ := ROW5.out.form
              cases evv
              refine ⟨_, _, ?_, hArg, btrans HBW.out hB5⟩
              (rw [HM5.out]) <;> rfl
          · go_simp
            have src1 : SrcP (V12.alloc (.cells #[.int .i64 x1, .int .i64 x2] 64)).drew (some ⟨V12.heap.size, 0, none⟩) [(x1, x2)] := (srcP_one V12 x1 x2).keep (below_drewN _ 1)
            have hB1 : Below V12.heap.size V12 (V12.alloc (.cells #[.int .i64 x1, .int .i64 x2] 64)).drew := ((Below.refl _ _).alloc (Nat.le_refl _) _).drew
            have hg1 : V12.heap.size < (V12.alloc (.cells #[.int .i64 x1, .int .i64 x2] 64)).drew.heap.size := by show V12.heap.size < (V12.alloc (.cells #[.int .i64 x1, .int .i64 x2] 64)).heap.size; simp
            generalize (V12.alloc (.cells #[.int .i64 x1, .int .i64 x2] 64)).drew = X1 at *
            refine hK.out _ _ hB1 (fun hHeld => ?_)
            clear hK K
            refine wpAnyH_ready (rs := [0]) (by kernel_rfl) (by simp) ?_
            refine AllReadyH.cons rfl (fun K hK => ?_) AllReadyH.nil
            go_simp
            have row0 : RowP (X1.alloc (.cells #[] 64)) V12.heap.size (.slice (some ⟨X1.heap.size, 0, none⟩) 0 0) [] := (rowP_new X1).base hB1.size
            have hbb : Below X1.heap.size X1 (X1.alloc (.cells #[] 64)) := (Below.refl _ _).alloc (Nat.le_refl _) _
            have src0 := src1.keep hbb
            have hB0 := hB1.trans (hbb.mono hB1.size)
            obtain ⟨sb, hsb⟩ : ∃ sb, X1.heap.size = sb := ⟨_, rfl⟩
            rw [hsb] at row0 hg1 ⊢
            generalize X1.alloc (.cells #[] 64) = X2 at *
            clear src1 hB1 hbb
            refine hK.out _ _ hB0 (fun hHeld => ?_)
            clear hK K
            refine wpAnyH_ready (rs := [4]) (by kernel_rfl) (by simp) ?_
            refine AllReadyH.cons rfl (fun K hK => ?_) AllReadyH.nil
            obtain ⟨a2, c2', X3, r2, row, b2, f2⟩ := appendP (cap := cap) 65 row0 (HTAKE.out.keep hB0) hB0.size (by have := HTL.out; simp; omega)
            rw [List.nil_append, HTL.out] at r2
            rw [List.nil_append, HTL.out] at row
            have hB := hB0.trans b2
            have src := src0.fr f2 (fun ad had => by cases had; intro e; have e2 : sb = V12.heap.size := Option.some.inj e; omega)
            clear row0 b2 f2 src0 hB0
            refine step_append_run (by rfl) _ _ 65 65 (by rfl) _ _ (by rfl) (by rfl) _ _ r2 ?_
            change K (Act.put _ (some 38) _) _
            simp only [Act.put, List.setIfInBounds_toArray, List.set_cons_zero, List.set_cons_succ]
            refine hK.out _ _ hB (fun hHeld => ?_)
            clear hK K r2
            -- both laid: at world X: row : RowP X W.heap.size (.slice a2 m c2') (ps.take i), src : SrcP X (some ⟨sb, 0, none⟩) [(x1, x2)], hB : Below W.heap.size W X
            obtain ⟨a4, c4, X4, r4, row4, b4, _⟩ := appendP (cap := 1) 65 row src hB.size (by have := HTL.out; simp; omega)
            have e4 : ([(x1, x2)] : List (Int × Int)).length = 1 := rfl
            rw [e4] at r4
            have hB4 := hB.trans b4
            obtain ⟨m4, hm4⟩ : ∃ m4, (ps.take i ++ [(x1, x2)]).length = m4 := ⟨_, rfl⟩
            rw [hm4] at r4 row4
            have ROW4 := hid row4
            have HM4 := hid hm4
            clear hm4 e4 src row b4
            refine wpAnyH_ready (rs := [7]) (by kernel_rfl) (by simp) ?_
            refine AllReadyH.cons rfl (fun K hK => ?_) AllReadyH.nil
            refine step_append_run (by rfl) _ _ 65 65 (by rfl) _ _ (by rfl) (by rfl) _ _ r4 ?_
            change K (Act.put _ (some 41) _) _
            simp only [Act.put, List.setIfInBounds_toArray, List.set_cons_zero, List.set_cons_succ]
            refine hK.out _ _ hB4 (fun hHeld => ?_)
            clear hK K r4
            obtain ⟨a5, c5, X5, r5, row5, b5, _⟩ := appendP (cap := cd) 65 ROW4.out (HDROP.out.keep hB4) hB4.size (by have := HTL.out; have := HDK.out; rw [List.length_append]; simp only [List.length_cons, List.length_nil]; omega)
            have hB5 := hB4.trans b5
            rw [HDK.out, HCD.out] at r5
            rw [show ps.take i ++ [(x1, x2)] ++ ps.drop i = qs by rw [HQE.out]; simp] at r5 row5
            obtain ⟨m5, hm5⟩ : ∃ m5, qs.length = m5 := ⟨_, rfl⟩
            have ROW5 := hid row5
            rw [hm5] at r5
            have HM5 := hid hm5
            clear hm5 row5 b5
            refine wpAnyH_ready (rs := [11]) (by kernel_rfl) (by simp) ?_
            refine AllReadyH.cons rfl (fun K hK => ?_) AllReadyH.nil
            refine step_append_run (by rfl) _ _ 65 65 (by rfl) _ _ (by rfl) (by rfl) _ _ r5 ?_
            change K (Act.put _ (some 45) _) _
            simp only [Act.put, List.setIfInBounds_toArray, List.set_cons_zero, List.set_cons_succ]
            refine hK.out _ _ hB5 (fun hHeld => ?_)
            clear hK K r5
            refine takeO 12 (some 4) (v := ?v88) rfl rfl (by kernel_rfl) (by kernel_rfl) (by kernel_rfl) (Or.inl ⟨by rfl, ?y88⟩) hHeld ?r88
            case y88 => (intro w' hSw; (try dsimp only at hSw); go_simp; try with_reducible rfl)
            try simp only [Act.put, List.setIfInBounds_toArray, List.set_cons_zero, List.set_cons_succ]
            refine wpAnyH_done (by kernel_rfl) (Only.on ?_) _
            clear hHeld
            go_wp2
            go_ret
            obtain ⟨aa, cc, evv, hArg⟩ := ROW5.out.form
            cases evv
            refine ⟨_, _, ?_, hArg, btrans HBW.out hB5⟩
            (rw [HM5.out]) <;> rfl
end Go.Proofs.Ytfcaekboonnmaaa
