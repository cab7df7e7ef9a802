/- Layer 9 (grid): the contract of between. -/
import Derived.Test.YtpghdfleffgilaaGrD
import Derived.Test.YtpghdfleffgilaaGrZ
namespace Go.Proofs.Ytpghdfleffgilaa
open Go.RowKit
set_option linter.unusedVariables false
set_option linter.unusedSimpArgs false
attribute [local go_sem ↓] Go.wp_at_zero Go.wp_at_succ

set_option maxHeartbeats 2000000 in
theorem gridBetween (a1 a2 a3 b1 b2 b3 : Int) (ha1 : I64 a1) (ha2 : I64 a2) (ha3 : I64 a3) (w : World) :
    Calls Try.prog 30 #[.agg #[.int .i64 a1, .int .i64 a2, .int .i64 a3], .agg #[.int .i64 b1, .int .i64 b2, .int .i64 b3]] w fun e w' => e = .returned (.agg #[.int .i64 a1, .int .i64 b1, .int .i64 (a1 / 65536), .int .i64 a2, .int .i64 b2, .int .i64 (a2 / 65536), .int .i64 a3, .int .i64 b3, .int .i64 (a3 / 65536)]) ∧ Below w.heap.size w w' := by
  go_enter Try.func30, Try.ntmps30
  go_wp2
  obtain ⟨W, hW⟩ : ∃ W, ((w.alloc (.cells #[.int .i64 a1, .int .i64 a2, .int .i64 a3] 27)).alloc (.cells #[.int .i64 b1, .int .i64 b2, .int .i64 b3] 27)).alloc (.cells #[.int .i64 0, .int .i64 0, .int .i64 0, .int .i64 0, .int .i64 0, .int .i64 0, .int .i64 0, .int .i64 0, .int .i64 0] 51) = W := ⟨_, rfl⟩
  obtain ⟨A, hA⟩ : ∃ b, w.heap.size = b := ⟨_, rfl⟩
  obtain ⟨B, hB⟩ : ∃ b, A + 1 = b := ⟨_, rfl⟩
  obtain ⟨R, hR⟩ : ∃ b, B + 1 = b := ⟨_, rfl⟩
  have hBel : Below A w W := by subst hW; subst hA; exact (((Below.refl _ _).alloc (Nat.le_refl _) _).alloc (by simp) _).alloc (by simp; omega) _
  have hsz : R < W.heap.size := by subst hW; subst hR; subst hB; subst hA; simp
  have hRo : W.heap[R]? = some (.cells #[.int .i64 0, .int .i64 0, .int .i64 0, .int .i64 0, .int .i64 0, .int .i64 0, .int .i64 0, .int .i64 0, .int .i64 0] 51 (0, 0)) := by
    subst hW; subst hR; subst hB; subst hA
    have := heap_alloc_new ((w.alloc (.cells #[.int .i64 a1, .int .i64 a2, .int .i64 a3] 27)).alloc (.cells #[.int .i64 b1, .int .i64 b2, .int .i64 b3] 27)) (.cells #[.int .i64 0, .int .i64 0, .int .i64 0, .int .i64 0, .int .i64 0, .int .i64 0, .int .i64 0, .int .i64 0, .int .i64 0] 51)
    simpa using this
  have hcA : ∀ w', Below W.heap.size W w' → w'.cell? ⟨A, 0, none⟩ = some (.int .i64 a1) ∧ w'.cell? ⟨A, 1, none⟩ = some (.int .i64 a2) ∧ w'.cell? ⟨A, 2, none⟩ = some (.int .i64 a3) ∧ w'.cell? ⟨B, 0, none⟩ = some (.int .i64 b1) ∧ w'.cell? ⟨B, 1, none⟩ = some (.int .i64 b2) ∧ w'.cell? ⟨B, 2, none⟩ = some (.int .i64 b3) := by
    intro w' hb
    have l1 : A < W.heap.size := by omega
    have l2 : B < W.heap.size := by omega
    subst hW; subst hR; subst hB; subst hA
    exact ⟨keepCell hb l1 (by simp [go_sem]), keepCell hb l1 (by simp [go_sem]), keepCell hb l1 (by simp [go_sem]), keepCell hb l2 (by simp [go_sem]), keepCell hb l2 (by simp [go_sem]), keepCell hb l2 (by simp [go_sem])⟩
  have c0 := fun w' hb => (hcA w' hb).1
  have c1 := fun w' hb => (hcA w' hb).2.1
  have c2 := fun w' hb => (hcA w' hb).2.2.1
  have c3 := fun w' hb => (hcA w' hb).2.2.2.1
  have c4 := fun w' hb => (hcA w' hb).2.2.2.2.1
  have c5 := fun w' hb => (hcA w' hb).2.2.2.2.2
  simp only [hA, hB, hR, hW]
  clear hcA hW
  have HBEL := hid hBel
  have HRO := hid hRo
  clear hBel hRo
  refine region_Z (fun w' => Below W.heap.size W w') 16 17 rfl (by kernel_rfl) (below_drewN W 1) ?_
  intro hHeld
  refine takeZ 0 (some 5) (v := ?v1) rfl rfl (by kernel_rfl) (by kernel_rfl) (by kernel_rfl) (by kernel_rfl) (Or.inl ⟨by rfl, ?y1⟩) hHeld ?r1
  case y1 => (intro w' hSw; (try dsimp only at hSw); go_simp; try with_reducible rfl)
  try simp only [Act.put, List.setIfInBounds_toArray, List.set_cons_zero, List.set_cons_succ]
  refine takeZ 1 (some 6) (v := ?v2) rfl rfl (by kernel_rfl) (by kernel_rfl) (by kernel_rfl) (by kernel_rfl) (Or.inl ⟨by rfl, ?y2⟩) hHeld ?r2
  case y2 => (intro w' hSw; (try dsimp only at hSw); go_simp; try with_reducible rfl)
  try simp only [Act.put, List.setIfInBounds_toArray, List.set_cons_zero, List.set_cons_succ]
  refine takeZ 2 (some 7) (v := ?v3) rfl rfl (by kernel_rfl) (by kernel_rfl) (by kernel_rfl) (by kernel_rfl) (Or.inl ⟨by rfl, ?y3⟩) hHeld ?r3
  case y3 => (intro w' hSw; (try dsimp only at hSw); go_simp; try with_reducible rfl)
  try simp only [Act.put, List.setIfInBounds_toArray, List.set_cons_zero, List.set_cons_succ]
  refine takeZ 3 (some 8) (v := ?v4) rfl rfl (by kernel_rfl) (by kernel_rfl) (by kernel_rfl) (by kernel_rfl) (Or.inl ⟨by rfl, ?y4⟩) hHeld ?r4
  case y4 => (intro w' hSw; (try dsimp only at hSw); go_simp; try with_reducible rfl)
  try simp only [Act.put, List.setIfInBounds_toArray, List.set_cons_zero, List.set_cons_succ]
  refine takeZ 5 (some 10) (v := ?v5) rfl rfl (by kernel_rfl) (by kernel_rfl) (by kernel_rfl) (by kernel_rfl) (Or.inl ⟨by rfl, ?y5⟩) hHeld ?r5
  case y5 => (intro w' hSw; (try dsimp only at hSw); go_simp; try with_reducible rfl)
  try simp only [Act.put, List.setIfInBounds_toArray, List.set_cons_zero, List.set_cons_succ]
  refine takeZ 6 (some 11) (v := ?v6) rfl rfl (by kernel_rfl) (by kernel_rfl) (by kernel_rfl) (by kernel_rfl) (Or.inl ⟨by rfl, ?y6⟩) hHeld ?r6
  case y6 => (intro w' hSw; (try dsimp only at hSw); go_simp; try with_reducible rfl)
  try simp only [Act.put, List.setIfInBounds_toArray, List.set_cons_zero, List.set_cons_succ]
  refine takeZ 7 (some 12) (v := ?v7) rfl rfl (by kernel_rfl) (by kernel_rfl) (by kernel_rfl) (by kernel_rfl) (Or.inl ⟨by rfl, ?y7⟩) hHeld ?r7
  case y7 => (intro w' hSw; (try dsimp only at hSw); go_simp; try with_reducible rfl)
  try simp only [Act.put, List.setIfInBounds_toArray, List.set_cons_zero, List.set_cons_succ]
  refine takeZ 8 (some 13) (v := ?v8) rfl rfl (by kernel_rfl) (by kernel_rfl) (by kernel_rfl) (by kernel_rfl) (Or.inl ⟨by rfl, ?y8⟩) hHeld ?r8
  case y8 => (intro w' hSw; (try dsimp only at hSw); go_simp; try with_reducible rfl)
  try simp only [Act.put, List.setIfInBounds_toArray, List.set_cons_zero, List.set_cons_succ]
  refine takeZ 10 (some 15) (v := ?v9) rfl rfl (by kernel_rfl) (by kernel_rfl) (by kernel_rfl) (by kernel_rfl) (Or.inl ⟨by rfl, ?y9⟩) hHeld ?r9
  case y9 => (intro w' hSw; (try dsimp only at hSw); go_simp; try with_reducible rfl)
  try simp only [Act.put, List.setIfInBounds_toArray, List.set_cons_zero, List.set_cons_succ]
  refine takeZ 11 (some 16) (v := ?v10) rfl rfl (by kernel_rfl) (by kernel_rfl) (by kernel_rfl) (by kernel_rfl) (Or.inl ⟨by rfl, ?y10⟩) hHeld ?r10
  case y10 => (intro w' hSw; (try dsimp only at hSw); go_simp; try with_reducible rfl)
  try simp only [Act.put, List.setIfInBounds_toArray, List.set_cons_zero, List.set_cons_succ]
  refine takeZ 12 (some 17) (v := ?v11) rfl rfl (by kernel_rfl) (by kernel_rfl) (by kernel_rfl) (by kernel_rfl) (Or.inl ⟨by rfl, ?y11⟩) hHeld ?r11
  case y11 => (intro w' hSw; (try dsimp only at hSw); go_simp; try with_reducible rfl)
  try simp only [Act.put, List.setIfInBounds_toArray, List.set_cons_zero, List.set_cons_succ]
  refine takeZ 13 (some 18) (v := ?v12) rfl rfl (by kernel_rfl) (by kernel_rfl) (by kernel_rfl) (by kernel_rfl) (Or.inl ⟨by rfl, ?y12⟩) hHeld ?r12
  case y12 => (intro w' hSw; (try dsimp only at hSw); go_simp; try with_reducible rfl)
  try simp only [Act.put, List.setIfInBounds_toArray, List.set_cons_zero, List.set_cons_succ]
  refine wpAnyZ_ready (rs := [4]) (by kernel_rfl) (by simp) ?_
  refine AllReadyZ.cons rfl (fun K hK => ?_) AllReadyZ.nil
  go_simp
  refine (gridAlong a1 b1 ha1 _).mono ?_
  rintro e V1 ⟨rfl, q1⟩
  dsimp only
  have B1 : Below W.heap.size W V1 := Below.trans (below_drewN W 1) q1
  refine hK.out _ _ B1 (fun hHeld => ?_)
  clear hK K
  refine wpAnyZ_ready (rs := [9]) (by kernel_rfl) (by simp) ?_
  refine AllReadyZ.cons rfl (fun K hK => ?_) AllReadyZ.nil
  go_simp
  refine (gridAlong a2 b2 ha2 _).mono ?_
  rintro e V2 ⟨rfl, q2⟩
  dsimp only
  have B2 := btrans B1 q2
  refine hK.out _ _ B2 (fun hHeld => ?_)
  clear hK K q1 q2 B1
  refine wpAnyZ_ready (rs := [14]) (by kernel_rfl) (by simp) ?_
  refine AllReadyZ.cons rfl (fun K hK => ?_) AllReadyZ.nil
  go_simp
  refine (gridAlong a3 b3 ha3 _).mono ?_
  rintro e V3 ⟨rfl, q3⟩
  dsimp only
  have B3 := btrans B2 q3
  refine hK.out _ _ B3 (fun hHeld => ?_)
  clear hK K q3 B2
  refine takeZ 15 (some 20) (v := ?v13) rfl rfl (by kernel_rfl) (by kernel_rfl) (by kernel_rfl) (by kernel_rfl) (Or.inl ⟨by rfl, ?y13⟩) hHeld ?r13
  case y13 => (intro w' hSw; (try dsimp only at hSw); go_simp; try with_reducible rfl)
  try simp only [Act.put, List.setIfInBounds_toArray, List.set_cons_zero, List.set_cons_succ]
  refine wpAnyZ_ready (rs := [16]) (by kernel_rfl) (by simp) ?_
  refine AllReadyZ.last rfl (fun K hK => ?_)
  have hRo3 : V3.heap[R]? = some (.cells #[.int .i64 0, .int .i64 0, .int .i64 0, .int .i64 0, .int .i64 0, .int .i64 0, .int .i64 0, .int .i64 0, .int .i64 0] 51 (0, 0)) := by rw [B3.block R hsz]; exact HRO.out
  have dd : ∀ i, V3.cell? ⟨R, i, none⟩ = (#[Value.int .i64 0, .int .i64 0, .int .i64 0, .int .i64 0, .int .i64 0, .int .i64 0, .int .i64 0, .int .i64 0, .int .i64 0])[i]? := fun i => cell_of_row V3 R i _ 51 (0, 0) hRo3
  have d0 : V3.cell? ⟨R, 0, none⟩ = some (.int .i64 0) := dd 0
  have d1 : V3.cell? ⟨R, 1, none⟩ = some (.int .i64 0) := dd 1
  have d2 : V3.cell? ⟨R, 2, none⟩ = some (.int .i64 0) := dd 2
  have d3 : V3.cell? ⟨R, 3, none⟩ = some (.int .i64 0) := dd 3
  have d4 : V3.cell? ⟨R, 4, none⟩ = some (.int .i64 0) := dd 4
  have d5 : V3.cell? ⟨R, 5, none⟩ = some (.int .i64 0) := dd 5
  have d6 : V3.cell? ⟨R, 6, none⟩ = some (.int .i64 0) := dd 6
  have d7 : V3.cell? ⟨R, 7, none⟩ = some (.int .i64 0) := dd 7
  have d8 : V3.cell? ⟨R, 8, none⟩ = some (.int .i64 0) := dd 8
  have df : ∀ i, V3.frozen? ⟨R, i, none⟩ = false := fun i => by simp [World.frozen?, hRo3]
  clear dd
  go_simp
  refine hK.out _ _ ?_
  have hRo4 : (((((((((V3.setCell ⟨R, 0, none⟩ (.int .i64 a1)).setCell ⟨R, 1, none⟩ (.int .i64 b1)).setCell ⟨R, 2, none⟩ (.int .i64 (a1 / 65536))).setCell ⟨R, 3, none⟩ (.int .i64 a2)).setCell ⟨R, 4, none⟩ (.int .i64 b2)).setCell ⟨R, 5, none⟩ (.int .i64 (a2 / 65536))).setCell ⟨R, 6, none⟩ (.int .i64 a3)).setCell ⟨R, 7, none⟩ (.int .i64 b3)).setCell ⟨R, 8, none⟩ (.int .i64 (a3 / 65536))).heap[R]? = some (.cells #[.int .i64 a1, .int .i64 b1, .int .i64 (a1 / 65536), .int .i64 a2, .int .i64 b2, .int .i64 (a2 / 65536), .int .i64 a3, .int .i64 b3, .int .i64 (a3 / 65536)] 51 (0, 0)) := by
    have h9 := heap_set_same (i := 8) (heap_set_same (i := 7) (heap_set_same (i := 6) (heap_set_same (i := 5) (heap_set_same (i := 4) (heap_set_same (i := 3) (heap_set_same (i := 2) (heap_set_same (i := 1) (heap_set_same (i := 0) hRo3 (.int .i64 a1)) (.int .i64 b1)) (.int .i64 (a1 / 65536))) (.int .i64 a2)) (.int .i64 b2)) (.int .i64 (a2 / 65536))) (.int .i64 a3)) (.int .i64 b3)) (.int .i64 (a3 / 65536))
    simpa only [List.setIfInBounds_toArray, List.set_cons_zero, List.set_cons_succ] using h9
  have hRw : w.heap.size ≤ R := by omega
  have B4 : Below w.heap.size w (((((((((V3.setCell ⟨R, 0, none⟩ (.int .i64 a1)).setCell ⟨R, 1, none⟩ (.int .i64 b1)).setCell ⟨R, 2, none⟩ (.int .i64 (a1 / 65536))).setCell ⟨R, 3, none⟩ (.int .i64 a2)).setCell ⟨R, 4, none⟩ (.int .i64 b2)).setCell ⟨R, 5, none⟩ (.int .i64 (a2 / 65536))).setCell ⟨R, 6, none⟩ (.int .i64 a3)).setCell ⟨R, 7, none⟩ (.int .i64 b3)).setCell ⟨R, 8, none⟩ (.int .i64 (a3 / 65536))) := by
    have B3 := (hA ▸ HBEL.out : Below w.heap.size w W).trans (B3.mono (by omega))
    exact ((((((((B3.setCell (p := ⟨R, 0, none⟩) hRw _).setCell (p := ⟨R, 1, none⟩) hRw _).setCell (p := ⟨R, 2, none⟩) hRw _).setCell (p := ⟨R, 3, none⟩) hRw _).setCell (p := ⟨R, 4, none⟩) hRw _).setCell (p := ⟨R, 5, none⟩) hRw _).setCell (p := ⟨R, 6, none⟩) hRw _).setCell (p := ⟨R, 7, none⟩) hRw _).setCell (p := ⟨R, 8, none⟩) hRw _
  clear hK K d0 d1 d2 d3 d4 d5 d6 d7 d8 df
  generalize ((((((((V3.setCell ⟨R, 0, none⟩ (.int .i64 a1)).setCell ⟨R, 1, none⟩ (.int .i64 b1)).setCell ⟨R, 2, none⟩ (.int .i64 (a1 / 65536))).setCell ⟨R, 3, none⟩ (.int .i64 a2)).setCell ⟨R, 4, none⟩ (.int .i64 b2)).setCell ⟨R, 5, none⟩ (.int .i64 (a2 / 65536))).setCell ⟨R, 6, none⟩ (.int .i64 a3)).setCell ⟨R, 7, none⟩ (.int .i64 b3)).setCell ⟨R, 8, none⟩ (.int .i64 (a3 / 65536)) = V4 at *
  have dd : ∀ i, V4.cell? ⟨R, i, none⟩ = (#[Value.int .i64 a1, Value.int .i64 b1, Value.int .i64 (a1 / 65536), Value.int .i64 a2, Value.int .i64 b2, Value.int .i64 (a2 / 65536), Value.int .i64 a3, Value.int .i64 b3, Value.int .i64 (a3 / 65536)])[i]? := fun i => cell_of_row V4 R i _ 51 (0, 0) hRo4
  have d0 : V4.cell? ⟨R, 0, none⟩ = some (.int .i64 a1) := dd 0
  have d1 : V4.cell? ⟨R, 1, none⟩ = some (.int .i64 b1) := dd 1
  have d2 : V4.cell? ⟨R, 2, none⟩ = some (.int .i64 (a1 / 65536)) := dd 2
  have d3 : V4.cell? ⟨R, 3, none⟩ = some (.int .i64 a2) := dd 3
  have d4 : V4.cell? ⟨R, 4, none⟩ = some (.int .i64 b2) := dd 4
  have d5 : V4.cell? ⟨R, 5, none⟩ = some (.int .i64 (a2 / 65536)) := dd 5
  have d6 : V4.cell? ⟨R, 6, none⟩ = some (.int .i64 a3) := dd 6
  have d7 : V4.cell? ⟨R, 7, none⟩ = some (.int .i64 b3) := dd 7
  have d8 : V4.cell? ⟨R, 8, none⟩ = some (.int .i64 (a3 / 65536)) := dd 8
  clear dd hRo4
  refine wpAnyZ_done (by kernel_rfl) (Only.on ?_) _
  go_wp2
  refine bodyPost_ret (v := .agg #[.int .i64 a1, .int .i64 b1, .int .i64 (a1 / 65536), .int .i64 a2, .int .i64 b2, .int .i64 (a2 / 65536), .int .i64 a3, .int .i64 b3, .int .i64 (a3 / 65536)]) ?_ rfl ⟨rfl, B4⟩
  simp [results, Try.results30, go_sem, d0, d1, d2, d3, d4, d5, d6, d7, d8]
end Go.Proofs.Ytpghdfleffgilaa
