/- Layer 2's own answer (embrasureref02): Table.Drop (for RingTablePlays). -/
import Derived.Test.YtechkkidebkadaaRtB
namespace Go.Proofs.Ytechkkidebkadaa
open Go.RowKit
set_option linter.unusedVariables false
attribute [local go_sem ↓] Go.wp_at_zero Go.wp_at_succ

theorem place_no {es : List (Nat × Value)} {id r : Int} (h : place es id r) (hn : ∀ k (hk : k < es.length), (es[k].1 : Int) ≠ id) : r = -1 := by
  rcases h with h | ⟨k, hk, _, e⟩
  · exact h.1
  · exact absurd e (hn k hk)
theorem place_yes {es : List (Nat × Value)} {id r : Int} (h : place es id r) (hr : Rise es) {k : Nat} (hk : k < es.length) (e : (es[k].1 : Int) = id) : r = (k : Int) := by
  rcases h with h | ⟨j, hj, rfl, e'⟩
  · exact absurd e (h.2 k hk)
  · rcases Nat.lt_trichotomy j k with h1 | h1 | h1
    · have := hr j k hk h1; omega
    · rw [h1]
    · have := hr k j hj h1; omega
theorem refDrop_no (S : Nat → Prop) (rb L : Nat) (mo : Int) (es : List (Nat × Value)) (v : Value) (id : Int) (w : World) (h : RefT w S rb mo L es v) (hN : AllN es) (hn : ∀ k (hk : k < es.length), (es[k].1 : Int) ≠ id) :
    Calls Try.prog 30 #[.pointer (some ⟨rb, 0, none⟩), .int .i64 id] w fun e w' => e = .returned (.bool false) ∧ Below w.heap.size w w' := by
  have hf := refFind S rb L mo es v id w h hN
  have HNo := hid (fun r (h : place es id r) => place_no h hn)
  clear h hN hn
  go_enter Try.func30, Try.ntmps30
  go_wp2_with fail
  refine hf.mono ?_; rintro e w1 ⟨⟨r, rfl, hp⟩, hB⟩
  obtain rfl := HNo.out r hp
  clear hf HNo hp
  go_wp2
  go_ret
  exact ⟨rfl, hB⟩
set_option maxRecDepth 100000 in
set_option maxHeartbeats 1000000 in
theorem refDrop_yes (S : Nat → Prop) (rb L : Nat) (mo : Int) (es : List (Nat × Value)) (v : Value) (id : Int) (k : Nat) (w : World) (h : RefT w S rb mo L es v) (hN : AllN es) (hr : Rise es) (hk : k < es.length) (e : (es[k].1 : Int) = id) (hl : es.length ≤ 1000) :
    Calls Try.prog 30 #[.pointer (some ⟨rb, 0, none⟩), .int .i64 id] w fun e w' => e = .returned (.bool true) ∧ ∃ S' v', RefT w' S' rb mo L (es.eraseIdx k) v' ∧ Fr S w w' ∧ Sub w S S' := by
  have hf := refFind S rb L mo es v id w h hN
  have HP := hid (fun r (h : place es id r) => place_yes h hr hk e)
  have H := hid h; have HN := hid hN
  clear h hN hr e
  go_enter Try.func30, Try.ntmps30
  go_wp2_with fail
  refine hf.mono ?_; rintro e W ⟨⟨r, rfl, hp⟩, hB0⟩
  obtain rfl := HP.out r hp
  have hW := H.out.below hB0
  clear hf HP hp H
  obtain ⟨c0, c1, c2⟩ := hW.cells
  obtain ⟨g, cap, rfl, hle, hmost, _, _, _, _⟩ := hW.at HN.out hk
  unfold maxLen at hmost
  have hrl : rb < W.heap.size := hW.lt rb hW.inb
  obtain ⟨a', cap', hvv, _, _, hsrc, _⟩ := hW.row.form
  cases hvv
  obtain ⟨v0, hv0⟩ : ∃ v0, Value.slice (some ⟨g, 0, none⟩) es.length cap = v0 := ⟨_, rfl⟩
  have k2' : ∀ w', Below W.heap.size W w' → w'.cell? ⟨rb, 2, none⟩ = some (.slice (some ⟨g, 0, none⟩) es.length cap) := fun w' hb => (hb.cell (p := ⟨rb, 2, none⟩) hrl).trans c2
  have hFW0 : Fr S w W := Fr.of_below S hB0
  have HW := hid hW; have HSRC := hid hsrc
  have HV := hid hv0.symm
  rw [hv0] at c2
  have i1 : (0 : Int) ≤ (k : Int) := by omega
  have i2 : (k : Int) < (es.length : Int) := by omega
  have i3 : (k : Int) + 1 ≤ (es.length : Int) := by omega
  have i4 : (k : Int) ≤ (cap : Int) := by omega
  have i5 : (es.length : Int) ≤ (cap : Int) := by omega
  have iw : IntKind.i64.wrap ((k : Int) + 1) = (k : Int) + 1 := by
    unfold IntKind.wrap
    simp only [IntKind.signed, IntKind.bits, Bool.true_and]
    split <;> rename_i hc <;> simp at hc <;> omega
  have i6 : (0 : Int) ≤ (k : Int) + 1 := by omega
  have hs1 : SrcE W (some ⟨g, 0, none⟩) (es.take k) := hsrc.take HN.out.fit (by omega)
  have hs2 : SrcE W (if cap = k + 1 then some ({ block := g, off := 0 } : Addr) else some { block := g, off := (k + 1) * 2 }) (es.drop (k + 1)) := by
    by_cases hc : cap = k + 1
    · exact ⟨.inl (List.drop_eq_nil_of_le (by omega))⟩
    · rw [if_neg hc]
      have := hsrc.drop HN.out.fit (k := k + 1) (by omega)
      rwa [Nat.zero_add] at this
  obtain ⟨p2, hp2⟩ : ∃ p2, (if cap = k + 1 then some ({ block := g, off := 0 } : Addr) else some { block := g, off := (k + 1) * 2 }) = p2 := ⟨_, rfl⟩
  rw [hp2] at hs2
  have hn1 : (es.take k).length = k := by rw [List.length_take]; omega
  have hn2 : (es.drop (k + 1)).length = es.length - (k + 1) := List.length_drop
  have hN1 : AllN (es.take k) := HN.out.of_mem (fun e he => List.mem_of_mem_take he)
  have hN2 : AllN (es.drop (k + 1)) := HN.out.of_mem (fun e he => List.mem_of_mem_drop he)
  have HS1 := hid hs1; have HS2 := hid hs2; have HE1 := hid hn1; have HE2 := hid hn2; have HN1 := hid hN1; have HN2 := hid hN2
  have HER := hid (show es.take k ++ es.drop (k + 1) = es.eraseIdx k from (List.eraseIdx_eq_take_drop_succ es k).symm)
  clear hW hsrc hv0 c0 c1 hB0 hs1 hs2 hn1 hn2 hN1 hN2
  go_wp2_with fail
  refine region_Z (fun w' => Below W.heap.size W w') 19 20 rfl (by kernel_rfl) (below_drewN W 1) ?_
  intro hHeld
  refine takeZ 0 (some 11) (v := ?v1) rfl rfl (by kernel_rfl) (by kernel_rfl) (by kernel_rfl) (by kernel_rfl) (Or.inl ⟨by rfl, ?y1⟩) hHeld ?r1
  case y1 => (intro w' hSw; (try dsimp only at hSw); go_simp; try with_reducible rfl)
  try simp only [Act.put, List.setIfInBounds_toArray, List.set_cons_zero, List.set_cons_succ]
  refine takeZ 2 (some 13) (v := ?v2) rfl rfl (by kernel_rfl) (by kernel_rfl) (by kernel_rfl) (by kernel_rfl) (Or.inl ⟨by rfl, ?y2⟩) hHeld ?r2
  case y2 => (intro w' hSw; (try dsimp only at hSw); go_simp; try with_reducible rfl)
  try simp only [Act.put, List.setIfInBounds_toArray, List.set_cons_zero, List.set_cons_succ]
  refine takeZ 3 (some 14) (v := ?v3) rfl rfl (by kernel_rfl) (by kernel_rfl) (by kernel_rfl) (by kernel_rfl) (Or.inl ⟨by rfl, ?y3⟩) hHeld ?r3
  case y3 => (intro w' hSw; (try dsimp only at hSw); go_simp; try with_reducible rfl)
  try simp only [Act.put, List.setIfInBounds_toArray, List.set_cons_zero, List.set_cons_succ]
  refine takeZ 4 (some 15) (v := ?v4) rfl rfl (by kernel_rfl) (by kernel_rfl) (by kernel_rfl) (by kernel_rfl) (Or.inl ⟨by rfl, ?y4⟩) hHeld ?r4
  case y4 => (intro w' hSw; (try dsimp only at hSw); go_simp; try with_reducible rfl)
  try simp only [Act.put, List.setIfInBounds_toArray, List.set_cons_zero, List.set_cons_succ]
  refine takeZ 5 (some 16) (v := ?v5) rfl rfl (by kernel_rfl) (by kernel_rfl) (by kernel_rfl) (by kernel_rfl) (Or.inl ⟨by rfl, ?y5⟩) hHeld ?r5
  case y5 => (intro w' hSw; (try dsimp only at hSw); go_simp; try with_reducible rfl)
  try simp only [Act.put, List.setIfInBounds_toArray, List.set_cons_zero, List.set_cons_succ]
  refine takeZ 6 (some 17) (v := ?v6) rfl rfl (by kernel_rfl) (by kernel_rfl) (by kernel_rfl) (by kernel_rfl) (Or.inl ⟨by rfl, ?y6⟩) hHeld ?r6
  case y6 => (intro w' hSw; (try dsimp only at hSw); go_simp; try with_reducible rfl)
  try simp only [Act.put, List.setIfInBounds_toArray, List.set_cons_zero, List.set_cons_succ]
  refine takeZ 7 (some 18) (v := ?v7) rfl rfl (by kernel_rfl) (by kernel_rfl) (by kernel_rfl) (by kernel_rfl) (Or.inl ⟨by rfl, ?y7⟩) hHeld ?r7
  case y7 => (intro w' hSw; (try dsimp only at hSw); go_simp; try with_reducible rfl)
  try simp only [Act.put, List.setIfInBounds_toArray, List.set_cons_zero, List.set_cons_succ]
  refine takeZ 9 (some 20) (v := ?v8) rfl rfl (by kernel_rfl) (by kernel_rfl) (by kernel_rfl) (by kernel_rfl) (Or.inl ⟨by rfl, ?y8⟩) hHeld ?r8
  case y8 => (intro w' hSw; (try dsimp only at hSw); go_simp; try with_reducible rfl)
  try simp only [Act.put, List.setIfInBounds_toArray, List.set_cons_zero, List.set_cons_succ]
  refine takeZ 10 (some 21) (v := ?v9) rfl rfl (by kernel_rfl) (by kernel_rfl) (by kernel_rfl) (by kernel_rfl) (Or.inl ⟨by rfl, ?y9⟩) hHeld ?r9
  case y9 => (intro w' hSw; (try dsimp only at hSw); go_simp; try with_reducible rfl)
  try simp only [Act.put, List.setIfInBounds_toArray, List.set_cons_zero, List.set_cons_succ]
  refine takeZ 11 (some 22) (v := ?v10) rfl rfl (by kernel_rfl) (by kernel_rfl) (by kernel_rfl) (by kernel_rfl) (Or.inl ⟨by rfl, ?y10⟩) hHeld ?r10
  case y10 => (intro w' hSw; (try dsimp only at hSw); go_simp; try with_reducible rfl)
  try simp only [Act.put, List.setIfInBounds_toArray, List.set_cons_zero, List.set_cons_succ]
  refine takeZ 12 (some 23) (v := ?v11) rfl rfl (by kernel_rfl) (by kernel_rfl) (by kernel_rfl) (by kernel_rfl) (Or.inl ⟨by rfl, ?y11⟩) hHeld ?r11
  case y11 => (intro w' hSw; (try dsimp only at hSw); go_simp; try with_reducible rfl)
  try simp only [Act.put, List.setIfInBounds_toArray, List.set_cons_zero, List.set_cons_succ]
  refine takeZ 13 (some 24) (v := ?v12) rfl rfl (by kernel_rfl) (by kernel_rfl) (by kernel_rfl) (by kernel_rfl) (Or.inl ⟨by rfl, ?y12⟩) hHeld ?r12
  case y12 => (intro w' hSw; (try dsimp only at hSw); go_simp; try with_reducible rfl)
  try simp only [Act.put, List.setIfInBounds_toArray, List.set_cons_zero, List.set_cons_succ]
  refine takeZ 14 (some 25) (v := ?v13) rfl rfl (by kernel_rfl) (by kernel_rfl) (by kernel_rfl) (by kernel_rfl) (Or.inl ⟨by rfl, ?y13⟩) hHeld ?r13
  case y13 => (intro w' hSw; (try dsimp only at hSw); go_simp; try with_reducible rfl)
  try simp only [Act.put, List.setIfInBounds_toArray, List.set_cons_zero, List.set_cons_succ]
  refine takeZ 15 (some 26) (v := ?v14) rfl rfl (by kernel_rfl) (by kernel_rfl) (by kernel_rfl) (by kernel_rfl) (Or.inl ⟨by rfl, ?y14⟩) hHeld ?r14
  case y14 => (intro w' hSw; (try dsimp only at hSw); go_simp; try with_reducible rfl)
  try simp only [Act.put, List.setIfInBounds_toArray, List.set_cons_zero, List.set_cons_succ]
  refine wpAnyZ_ready (rs := [1]) (by kernel_rfl) (by simp) ?_
  refine AllReadyZ.cons rfl (fun K hK => ?_) AllReadyZ.nil
  go_simp
  have row1 : RowE (W.alloc (.cells #[] 61)).drew W.heap.size (.slice (some ⟨W.heap.size, 0, none⟩) 0 0) [] := (rowE_new W).below (below_drewN _ 1)
  have hB1 := below_ad W (.cells #[] 61)
  generalize (W.alloc (.cells #[] 61)).drew = X1 at *
  refine hK.out _ _ hB1 (fun hHeld => ?_)
  clear hK K
  refine wpAnyZ_ready (rs := [8]) (by kernel_rfl) (by simp) ?_
  refine AllReadyZ.cons rfl (fun K hK => ?_) AllReadyZ.nil
  obtain ⟨a2, c2', X2, r2, row2, b2, _⟩ := appendE (cap := cap) 54 row1 (HS1.out.keep hB1) HN1.out hB1.size (by rw [HE1.out]; simp; omega)
  rw [HE1.out, List.nil_append, HE1.out] at r2
  rw [List.nil_append, HE1.out] at row2
  have hB2 := hB1.trans b2
  clear row1 b2
  refine step_append_run (by rfl) _ _ 54 54 (by rfl) _ _ (by rfl) (by rfl) _ _ r2 ?_
  change K (Act.put _ (some 19) _) _
  simp only [Act.put, List.setIfInBounds_toArray, List.set_cons_zero, List.set_cons_succ]
  refine hK.out _ _ hB2 (fun hHeld => ?_)
  clear hK K r2
  refine wpAnyZ_ready (rs := [16]) (by kernel_rfl) (by simp) ?_
  refine AllReadyZ.cons rfl (fun K hK => ?_) AllReadyZ.nil
  obtain ⟨a4, c4, X4, r4, row4, b4, _⟩ := appendE (cap := cap - (k + 1)) 54 row2 (HS2.out.keep hB2) HN2.out hB2.size (by rw [HE1.out, HE2.out]; omega)
  have hB4 := hB2.trans b4
  rw [HE2.out] at r4
  rw [HER.out] at r4 row4
  obtain ⟨m4, hm4⟩ : ∃ m4, (es.eraseIdx k).length = m4 := ⟨_, rfl⟩
  have ROW4 := hid row4
  rw [hm4] at r4
  have HM4 := hid hm4
  clear hm4 row2 b4
  refine step_append_run (by rfl) _ _ 54 54 (by rfl) _ _ (by rfl) (by rfl) _ _ r4 ?_
  change K (Act.put _ (some 27) _) _
  simp only [Act.put, List.setIfInBounds_toArray, List.set_cons_zero, List.set_cons_succ]
  refine hK.out _ _ hB4 (fun hHeld => ?_)
  clear hK K r4
  refine wpAnyZ_ready (rs := [17]) (by kernel_rfl) (by simp) ?_
  refine AllReadyZ.cons rfl (fun K hK => ?_) AllReadyZ.nil
  go_simp
  refine hK.out _ _ hB4 (fun hHeld => ?_)
  clear hK K
  refine takeZ 18 (some 29) (v := ?v15) rfl rfl (by kernel_rfl) (by kernel_rfl) (by kernel_rfl) (by kernel_rfl) (Or.inl ⟨by rfl, ?y15⟩) hHeld ?r15
  case y15 => (intro w' hSw; (try dsimp only at hSw); go_simp; try with_reducible rfl)
  try simp only [Act.put, List.setIfInBounds_toArray, List.set_cons_zero, List.set_cons_succ]
  refine wpAnyZ_ready (rs := [19]) (by kernel_rfl) (by simp) ?_
  refine AllReadyZ.last rfl (fun K hK => ?_)
  have d0 : X4.cell? ⟨rb, 2, none⟩ = some v0 := (hB4.cell (p := ⟨rb, 2, none⟩) hrl).trans c2
  have df : X4.frozen? ⟨rb, 2, none⟩ = false := (hB4.frozen (p := ⟨rb, 2, none⟩) hrl).trans (HW.out.thaw 2)
  rw [HV.out] at d0
  go_simp
  obtain ⟨hN4, hF4, hS4⟩ := HW.out.stored hB4 ROW4.out
  rw [HM4.out] at hN4 hF4
  have HN4 := hid hN4; have HF4 := hid hF4
  refine hK.out _ _ ?_
  clear hK K d0 df hN4 hF4
  refine wpAnyZ_done (by kernel_rfl) (Only.on ?_) _
  go_wp2_with fail
  go_ret
  exact ⟨rfl, _, _, HN4.out, hFW0.trans HF4.out (fun _ _ e => e), fun k hk => (hS4 k hk).imp (fun h => h) (fun e => Nat.le_trans hFW0.size e)⟩
end Go.Proofs.Ytechkkidebkadaa
