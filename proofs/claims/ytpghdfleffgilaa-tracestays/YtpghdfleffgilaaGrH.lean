/- Layer 9 (grid): the contract of (line).step. -/
import Derived.Test.YtpghdfleffgilaaGrG
import Derived.Deep.DeepCutAuto
import Derived.Deep.CutBlock
namespace Go.Proofs.Ytpghdfleffgilaa
open Go.RowKit
set_option linter.unusedVariables false
set_option linter.unusedSimpArgs false
attribute [local go_sem ↓] Go.wp_at_zero Go.wp_at_succ

/-- A line in a box. -/
structure L9 (w : World) (b : Nat) (f1 t1 k1 f2 t2 k2 f3 t3 k3 : Int) : Prop where
  obj : w.heap[b]? = some (.cells #[.int .i64 f1, .int .i64 t1, .int .i64 k1, .int .i64 f2, .int .i64 t2, .int .i64 k2, .int .i64 f3, .int .i64 t3, .int .i64 k3] 51 (0, 0))
theorem L9.lt {w : World} {b : Nat} {f1 t1 k1 f2 t2 k2 f3 t3 k3 : Int} (h : L9 w b f1 t1 k1 f2 t2 k2 f3 t3 k3) : b < w.heap.size := (Array.getElem?_eq_some_iff.1 h.obj).1
theorem L9.cells {w : World} {b : Nat} {f1 t1 k1 f2 t2 k2 f3 t3 k3 : Int} (h : L9 w b f1 t1 k1 f2 t2 k2 f3 t3 k3) : w.cell? ⟨b, 0, none⟩ = some (.int .i64 f1) ∧ w.cell? ⟨b, 1, none⟩ = some (.int .i64 t1) ∧ w.cell? ⟨b, 2, none⟩ = some (.int .i64 k1) ∧ w.cell? ⟨b, 3, none⟩ = some (.int .i64 f2) ∧ w.cell? ⟨b, 4, none⟩ = some (.int .i64 t2) ∧ w.cell? ⟨b, 5, none⟩ = some (.int .i64 k2) ∧ w.cell? ⟨b, 6, none⟩ = some (.int .i64 f3) ∧ w.cell? ⟨b, 7, none⟩ = some (.int .i64 t3) ∧ w.cell? ⟨b, 8, none⟩ = some (.int .i64 k3) :=
  ⟨cell_of_row w b 0 _ _ (0, 0) h.obj, cell_of_row w b 1 _ _ (0, 0) h.obj, cell_of_row w b 2 _ _ (0, 0) h.obj, cell_of_row w b 3 _ _ (0, 0) h.obj, cell_of_row w b 4 _ _ (0, 0) h.obj, cell_of_row w b 5 _ _ (0, 0) h.obj, cell_of_row w b 6 _ _ (0, 0) h.obj, cell_of_row w b 7 _ _ (0, 0) h.obj, cell_of_row w b 8 _ _ (0, 0) h.obj⟩
theorem L9.thaw {w : World} {b : Nat} {f1 t1 k1 f2 t2 k2 f3 t3 k3 : Int} (h : L9 w b f1 t1 k1 f2 t2 k2 f3 t3 k3) (o : Nat) : w.frozen? ⟨b, o, none⟩ = false := by simp [World.frozen?, h.obj]
theorem L9.below {w w' : World} {b : Nat} {f1 t1 k1 f2 t2 k2 f3 t3 k3 : Int} (h : L9 w b f1 t1 k1 f2 t2 k2 f3 t3 k3) {B : Nat} (hb : Below B w w') (hB : b < B) : L9 w' b f1 t1 k1 f2 t2 k2 f3 t3 k3 := ⟨by rw [hb.block b hB]; exact h.obj⟩
theorem L9.keep {w w' : World} {b : Nat} {f1 t1 k1 f2 t2 k2 f3 t3 k3 : Int} (h : L9 w b f1 t1 k1 f2 t2 k2 f3 t3 k3) (hb : Below w.heap.size w w') : L9 w' b f1 t1 k1 f2 t2 k2 f3 t3 k3 := h.below hb h.lt
theorem L9.fr {w w' : World} {S : Nat → Prop} {b : Nat} {f1 t1 k1 f2 t2 k2 f3 t3 k3 : Int} (h : L9 w b f1 t1 k1 f2 t2 k2 f3 t3 k3) (hf : Fr S w w') (hS : ¬ S b) : L9 w' b f1 t1 k1 f2 t2 k2 f3 t3 k3 := ⟨by rw [hf.block b h.lt hS]; exact h.obj⟩
theorem L9.set1 {w : World} {b : Nat} {f1 t1 k1 f2 t2 k2 f3 t3 k3 : Int} (h : L9 w b f1 t1 k1 f2 t2 k2 f3 t3 k3) (u : Int) : L9 (w.setCell ⟨b, 2, none⟩ (.int .i64 u)) b f1 t1 u f2 t2 k2 f3 t3 k3 :=
  ⟨by have := heap_set_same (i := 2) h.obj (.int .i64 u); simpa only [List.setIfInBounds_toArray, List.set_cons_zero, List.set_cons_succ] using this⟩
theorem L9.set2 {w : World} {b : Nat} {f1 t1 k1 f2 t2 k2 f3 t3 k3 : Int} (h : L9 w b f1 t1 k1 f2 t2 k2 f3 t3 k3) (u : Int) : L9 (w.setCell ⟨b, 5, none⟩ (.int .i64 u)) b f1 t1 k1 f2 t2 u f3 t3 k3 :=
  ⟨by have := heap_set_same (i := 5) h.obj (.int .i64 u); simpa only [List.setIfInBounds_toArray, List.set_cons_zero, List.set_cons_succ] using this⟩
theorem L9.set3 {w : World} {b : Nat} {f1 t1 k1 f2 t2 k2 f3 t3 k3 : Int} (h : L9 w b f1 t1 k1 f2 t2 k2 f3 t3 k3) (u : Int) : L9 (w.setCell ⟨b, 8, none⟩ (.int .i64 u)) b f1 t1 k1 f2 t2 k2 f3 t3 u :=
  ⟨by have := heap_set_same (i := 8) h.obj (.int .i64 u); simpa only [List.setIfInBounds_toArray, List.set_cons_zero, List.set_cons_succ] using this⟩
theorem B3.fr {w w' : World} {S : Nat → Prop} {b : Nat} {t : TypeId} {x y z : Int} (h : B3 w b t x y z) (hf : Fr S w w') (hS : ¬ S b) : B3 w' b t x y z := ⟨by rw [hf.block b h.lt hS]; exact h.obj⟩
def stp3 (f t c : Int) (r : Bool) (n1 n2 n3 : Int) : Int := if stpB f t c r n1 n2 n3 then stepC f t c else c
def stU (i j : Nat) (s k : Int) : Int := if j < i then s else k
set_option maxHeartbeats 4000000 in
theorem lineStep (f1 t1 k1 f2 t2 k2 f3 t3 k3 n1 n2 n3 : Int) (r : Bool) (lb rb nb : Nat) (h1 : AxOk f1 t1 k1) (h2 : AxOk f2 t2 k2) (h3 : AxOk f3 t3 k3) (hn : AxOk n1 n2 n3) (w : World) (hlr : rb ≠ lb) (hln : nb ≠ lb) (hr : Vr w rb 4 (.bool r)) (hnx : B3 w nb 49 n1 n2 n3) (hl : L9 w lb f1 t1 k1 f2 t2 k2 f3 t3 k3) :
    Calls Try.prog 32 #[.pointer (some ⟨lb, 0, none⟩), .func (.func 33) #[] #[.pointer (some ⟨rb, 0, none⟩), .pointer (some ⟨nb, 0, none⟩)]] w fun e w' => e = .returned (.tuple #[]) ∧ Fr (fun k => k = lb) w w' ∧ L9 w' lb f1 t1 (stp3 f1 t1 k1 r n1 n2 n3) f2 t2 (stp3 f2 t2 k2 r n1 n2 n3) f3 t3 (stp3 f3 t3 k3 r n1 n2 n3) := by
  have hcl : ∀ f t c, AxOk f t c → ∀ V, Fr (fun k => k = lb) w V → Calls Try.prog 33 #[.agg #[.int .i64 f, .int .i64 t, .int .i64 c], .pointer (some ⟨rb, 0, none⟩), .pointer (some ⟨nb, 0, none⟩)] V fun e w' => e = .returned (.bool (stpB f t c r n1 n2 n3)) ∧ Below V.heap.size V w' := fun f t c ha V hV =>
    sightFn f t c n1 n2 n3 r rb nb ha hn V (Nat.lt_of_lt_of_le hr.lt hV.size) (hr.fr hV (fun e => hlr e)).cell (hnx.fr hV (fun e => hln e))
  have HCL := hid hcl
  clear hcl
  go_enter Try.func32, Try.ntmps32
  go_wp2
  go_loopw [8] (fun v wr => ∃ (i : Nat) (c1 c2 c3 : Int), v = .int .i64 i ∧ i ≤ 3 ∧ Hid (c1 = stU i 0 (stp3 f1 t1 k1 r n1 n2 n3) k1 ∧ c2 = stU i 1 (stp3 f2 t2 k2 r n1 n2 n3) k2 ∧ c3 = stU i 2 (stp3 f3 t3 k3 r n1 n2 n3) k3) ∧ L9 wr lb f1 t1 c1 f2 t2 c2 f3 t3 c3 ∧ Fr (fun k => k = lb) w wr) (fun v _ => 3 - (intOf v).toNat)
  case atStart => exact ⟨0, k1, k2, k3, rfl, by omega, hid ⟨rfl, rfl, rfl⟩, hl, Fr.refl _ _⟩
  case round =>
    obtain ⟨i, c1, c2, c3, rfl, hi, hC, hL, hF⟩ := hrel
    have hi4 : i = 0 ∨ i = 1 ∨ i = 2 ∨ i = 3 := by omega
    rcases hi4 with rfl | rfl | rfl | rfl
    · skip
      have e : k1 = c1 := by obtain ⟨q1, q2, q3⟩ := hC.out; simp [stU] at q1 q2 q3; first | exact q1.symm | exact q2.symm | exact q3.symm
      subst e
      obtain ⟨a0, a1, a2, a3, a4, a5, a6, a7, a8⟩ := hL.cells
      have z0 := hL.thaw 2
      have g0 := Lib.cell?_alloc_some (.cells #[.int .i64 0, .int .i64 0, .int .i64 0] 49) a0
      have g1 := Lib.cell?_alloc_some (.cells #[.int .i64 0, .int .i64 0, .int .i64 0] 49) a1
      have g2 := Lib.cell?_alloc_some (.cells #[.int .i64 0, .int .i64 0, .int .i64 0] 49) a2
      go_wp2
      go_region
      have hFa : Fr (fun k => k = lb) w (wr.alloc (.cells #[.int .i64 f1, .int .i64 t1, .int .i64 k1] 49)).drew := (hF.alloc _).drew
      have hLa : L9 (wr.alloc (.cells #[.int .i64 f1, .int .i64 t1, .int .i64 k1] 49)).drew lb f1 t1 k1 f2 t2 c2 f3 t3 c3 := hL.keep ((Below.refl _ _).alloc (Nat.le_refl _) _).drew
      have hXa : B3 (wr.alloc (.cells #[.int .i64 f1, .int .i64 t1, .int .i64 k1] 49)).drew wr.heap.size 49 f1 t1 k1 := (B3.new wr _ _ _ _).keep (below_drewN _ 1)
      generalize (wr.alloc (.cells #[.int .i64 f1, .int .i64 t1, .int .i64 k1] 49)).drew = V at *
      clear g0 g1 g2 a0 a1 a2 a3 a4 a5 a6 a7 a8 z0 hL hF
      have hcb := HCL.out f1 t1 k1 h1 V hFa
      obtain ⟨sb, hsb⟩ : ∃ b, stpB f1 t1 k1 r n1 n2 n3 = b := ⟨_, rfl⟩
      rw [hsb] at hcb
      have HSB := hid hsb
      clear hsb
      obtain ⟨x0, x1, x2⟩ := hXa.cells
      go_wp2_with fail
      refine hcb.mono ?_; rintro e V1 ⟨rfl, q1⟩
      have hF1 := hFa.trans (Fr.of_below (fun _ => False) q1) (fun _ _ e => e.elim)
      have hL1 := hLa.keep q1
      have hX1 := hXa.keep q1
      clear hFa hLa hXa q1 hcb x0 x1 x2
      cases sb with
      | false =>
        have hC2 : Hid (k1 = stU 1 0 (stp3 f1 t1 k1 r n1 n2 n3) k1 ∧ c2 = stU 1 1 (stp3 f2 t2 k2 r n1 n2 n3) k2 ∧ c3 = stU 1 2 (stp3 f3 t3 k3 r n1 n2 n3) k3) := by
          have hs : stp3 f1 t1 k1 r n1 n2 n3 = k1 := by unfold stp3; rw [HSB.out]; rfl
          have q := hC.out
          refine hid ?_
          simp [stU] at q ⊢
          simp [q, hs]
        clear HSB
        go_wp2
        exact ⟨⟨1, k1, c2, c3, by go_num, by omega, hC2, hL1, hF1⟩, by simp [intOf]⟩
      | true =>
        obtain ⟨x0, x1, x2⟩ := hX1.cells
        go_wp2_with fail
        refine (axisRises f1 t1 k1 _).mono ?_; rintro e V2 ⟨rfl, q2⟩
        have hF2 := hF1.trans (Fr.of_below (fun _ => False) q2) (fun _ _ e => e.elim)
        have hL2 := hL1.keep q2
        clear hF1 hL1 hX1 q2 x0 x1 x2
        obtain ⟨a0, a1, a2, a3, a4, a5, a6, a7, a8⟩ := hL2.cells
        have z0 := hL2.thaw 2
        have k0 := h1.c0
        have k1' := h1.c1
        by_cases hr : f1 < t1
        · have hC2 : Hid ((k1 + 1) = stU 1 0 (stp3 f1 t1 k1 r n1 n2 n3) k1 ∧ c2 = stU 1 1 (stp3 f2 t2 k2 r n1 n2 n3) k2 ∧ c3 = stU 1 2 (stp3 f3 t3 k3 r n1 n2 n3) k3) := by
            have hs : stp3 f1 t1 k1 r n1 n2 n3 = k1 + 1 := by unfold stp3 stepC; rw [HSB.out, if_pos hr]; rfl
            have q := hC.out
            refine hid ?_
            simp [stU] at q ⊢
            simp [q, hs]
          clear HSB
          have hL3 := hL2.set1 (k1 + 1)
          have hF3 := hF2.setCell (p := ⟨lb, 2, none⟩) rfl (.int .i64 (k1 + 1))
          go_wp2
          go_region
          go_wp2
          exact ⟨⟨1, (k1 + 1), c2, c3, by go_num, by omega, hC2, hL3.keep (below_drewN _ 1), hF3.drewN 1⟩, by simp [intOf]⟩
        · have hC2 : Hid ((k1 - 1) = stU 1 0 (stp3 f1 t1 k1 r n1 n2 n3) k1 ∧ c2 = stU 1 1 (stp3 f2 t2 k2 r n1 n2 n3) k2 ∧ c3 = stU 1 2 (stp3 f3 t3 k3 r n1 n2 n3) k3) := by
            have hs : stp3 f1 t1 k1 r n1 n2 n3 = k1 - 1 := by unfold stp3 stepC; rw [HSB.out, if_neg hr]; rfl
            have q := hC.out
            refine hid ?_
            simp [stU] at q ⊢
            simp [q, hs]
          clear HSB
          have hL3 := hL2.set1 (k1 - 1)
          have hF3 := hF2.setCell (p := ⟨lb, 2, none⟩) rfl (.int .i64 (k1 - 1))
          go_wp2
          go_region
          go_wp2
          exact ⟨⟨1, (k1 - 1), c2, c3, by go_num, by omega, hC2, hL3.keep (below_drewN _ 1), hF3.drewN 1⟩, by simp [intOf]⟩
    · skip
      have e : k2 = c2 := by obtain ⟨q1, q2, q3⟩ := hC.out; simp [stU] at q1 q2 q3; first | exact q1.symm | exact q2.symm | exact q3.symm
      subst e
      obtain ⟨a0, a1, a2, a3, a4, a5, a6, a7, a8⟩ := hL.cells
      have z0 := hL.thaw 5
      have g0 := Lib.cell?_alloc_some (.cells #[.int .i64 0, .int .i64 0, .int .i64 0] 49) a3
      have g1 := Lib.cell?_alloc_some (.cells #[.int .i64 0, .int .i64 0, .int .i64 0] 49) a4
      have g2 := Lib.cell?_alloc_some (.cells #[.int .i64 0, .int .i64 0, .int .i64 0] 49) a5
      go_wp2
      go_region
      have hFa : Fr (fun k => k = lb) w (wr.alloc (.cells #[.int .i64 f2, .int .i64 t2, .int .i64 k2] 49)).drew := (hF.alloc _).drew
      have hLa : L9 (wr.alloc (.cells #[.int .i64 f2, .int .i64 t2, .int .i64 k2] 49)).drew lb f1 t1 c1 f2 t2 k2 f3 t3 c3 := hL.keep ((Below.refl _ _).alloc (Nat.le_refl _) _).drew
      have hXa : B3 (wr.alloc (.cells #[.int .i64 f2, .int .i64 t2, .int .i64 k2] 49)).drew wr.heap.size 49 f2 t2 k2 := (B3.new wr _ _ _ _).keep (below_drewN _ 1)
      generalize (wr.alloc (.cells #[.int .i64 f2, .int .i64 t2, .int .i64 k2] 49)).drew = V at *
      clear g0 g1 g2 a0 a1 a2 a3 a4 a5 a6 a7 a8 z0 hL hF
      have hcb := HCL.out f2 t2 k2 h2 V hFa
      obtain ⟨sb, hsb⟩ : ∃ b, stpB f2 t2 k2 r n1 n2 n3 = b := ⟨_, rfl⟩
      rw [hsb] at hcb
      have HSB := hid hsb
      clear hsb
      obtain ⟨x0, x1, x2⟩ := hXa.cells
      go_wp2_with fail
      refine hcb.mono ?_; rintro e V1 ⟨rfl, q1⟩
      have hF1 := hFa.trans (Fr.of_below (fun _ => False) q1) (fun _ _ e => e.elim)
      have hL1 := hLa.keep q1
      have hX1 := hXa.keep q1
      clear hFa hLa hXa q1 hcb x0 x1 x2
      cases sb with
      | false =>
        have hC2 : Hid (c1 = stU 2 0 (stp3 f1 t1 k1 r n1 n2 n3) k1 ∧ k2 = stU 2 1 (stp3 f2 t2 k2 r n1 n2 n3) k2 ∧ c3 = stU 2 2 (stp3 f3 t3 k3 r n1 n2 n3) k3) := by
          have hs : stp3 f2 t2 k2 r n1 n2 n3 = k2 := by unfold stp3; rw [HSB.out]; rfl
          have q := hC.out
          refine hid ?_
          simp [stU] at q ⊢
          simp [q, hs]
        clear HSB
        go_wp2
        exact ⟨⟨2, c1, k2, c3, by go_num, by omega, hC2, hL1, hF1⟩, by simp [intOf]⟩
      | true =>
        obtain ⟨x0, x1, x2⟩ := hX1.cells
        go_wp2_with fail
        refine (axisRises f2 t2 k2 _).mono ?_; rintro e V2 ⟨rfl, q2⟩
        have hF2 := hF1.trans (Fr.of_below (fun _ => False) q2) (fun _ _ e => e.elim)
        have hL2 := hL1.keep q2
        clear hF1 hL1 hX1 q2 x0 x1 x2
        obtain ⟨a0, a1, a2, a3, a4, a5, a6, a7, a8⟩ := hL2.cells
        have z0 := hL2.thaw 5
        have k0 := h2.c0
        have k1' := h2.c1
        by_cases hr : f2 < t2
        · have hC2 : Hid (c1 = stU 2 0 (stp3 f1 t1 k1 r n1 n2 n3) k1 ∧ (k2 + 1) = stU 2 1 (stp3 f2 t2 k2 r n1 n2 n3) k2 ∧ c3 = stU 2 2 (stp3 f3 t3 k3 r n1 n2 n3) k3) := by
            have hs : stp3 f2 t2 k2 r n1 n2 n3 = k2 + 1 := by unfold stp3 stepC; rw [HSB.out, if_pos hr]; rfl
            have q := hC.out
            refine hid ?_
            simp [stU] at q ⊢
            simp [q, hs]
          clear HSB
          have hL3 := hL2.set2 (k2 + 1)
          have hF3 := hF2.setCell (p := ⟨lb, 5, none⟩) rfl (.int .i64 (k2 + 1))
          go_wp2
          go_region
          go_wp2
          exact ⟨⟨2, c1, (k2 + 1), c3, by go_num, by omega, hC2, hL3.keep (below_drewN _ 1), hF3.drewN 1⟩, by simp [intOf]⟩
        · have hC2 : Hid (c1 = stU 2 0 (stp3 f1 t1 k1 r n1 n2 n3) k1 ∧ (k2 - 1) = stU 2 1 (stp3 f2 t2 k2 r n1 n2 n3) k2 ∧ c3 = stU 2 2 (stp3 f3 t3 k3 r n1 n2 n3) k3) := by
            have hs : stp3 f2 t2 k2 r n1 n2 n3 = k2 - 1 := by unfold stp3 stepC; rw [HSB.out, if_neg hr]; rfl
            have q := hC.out
            refine hid ?_
            simp [stU] at q ⊢
            simp [q, hs]
          clear HSB
          have hL3 := hL2.set2 (k2 - 1)
          have hF3 := hF2.setCell (p := ⟨lb, 5, none⟩) rfl (.int .i64 (k2 - 1))
          go_wp2
          go_region
          go_wp2
          exact ⟨⟨2, c1, (k2 - 1), c3, by go_num, by omega, hC2, hL3.keep (below_drewN _ 1), hF3.drewN 1⟩, by simp [intOf]⟩
    · skip
      have e : k3 = c3 := by obtain ⟨q1, q2, q3⟩ := hC.out; simp [stU] at q1 q2 q3; first | exact q1.symm | exact q2.symm | exact q3.symm
      subst e
      obtain ⟨a0, a1, a2, a3, a4, a5, a6, a7, a8⟩ := hL.cells
      have z0 := hL.thaw 8
      have g0 := Lib.cell?_alloc_some (.cells #[.int .i64 0, .int .i64 0, .int .i64 0] 49) a6
      have g1 := Lib.cell?_alloc_some (.cells #[.int .i64 0, .int .i64 0, .int .i64 0] 49) a7
      have g2 := Lib.cell?_alloc_some (.cells #[.int .i64 0, .int .i64 0, .int .i64 0] 49) a8
      go_wp2
      go_region
      have hFa : Fr (fun k => k = lb) w (wr.alloc (.cells #[.int .i64 f3, .int .i64 t3, .int .i64 k3] 49)).drew := (hF.alloc _).drew
      have hLa : L9 (wr.alloc (.cells #[.int .i64 f3, .int .i64 t3, .int .i64 k3] 49)).drew lb f1 t1 c1 f2 t2 c2 f3 t3 k3 := hL.keep ((Below.refl _ _).alloc (Nat.le_refl _) _).drew
      have hXa : B3 (wr.alloc (.cells #[.int .i64 f3, .int .i64 t3, .int .i64 k3] 49)).drew wr.heap.size 49 f3 t3 k3 := (B3.new wr _ _ _ _).keep (below_drewN _ 1)
      generalize (wr.alloc (.cells #[.int .i64 f3, .int .i64 t3, .int .i64 k3] 49)).drew = V at *
      clear g0 g1 g2 a0 a1 a2 a3 a4 a5 a6 a7 a8 z0 hL hF
      have hcb := HCL.out f3 t3 k3 h3 V hFa
      obtain ⟨sb, hsb⟩ : ∃ b, stpB f3 t3 k3 r n1 n2 n3 = b := ⟨_, rfl⟩
      rw [hsb] at hcb
      have HSB := hid hsb
      clear hsb
      obtain ⟨x0, x1, x2⟩ := hXa.cells
      go_wp2_with fail
      refine hcb.mono ?_; rintro e V1 ⟨rfl, q1⟩
      have hF1 := hFa.trans (Fr.of_below (fun _ => False) q1) (fun _ _ e => e.elim)
      have hL1 := hLa.keep q1
      have hX1 := hXa.keep q1
      clear hFa hLa hXa q1 hcb x0 x1 x2
      cases sb with
      | false =>
        have hC2 : Hid (c1 = stU 3 0 (stp3 f1 t1 k1 r n1 n2 n3) k1 ∧ c2 = stU 3 1 (stp3 f2 t2 k2 r n1 n2 n3) k2 ∧ k3 = stU 3 2 (stp3 f3 t3 k3 r n1 n2 n3) k3) := by
          have hs : stp3 f3 t3 k3 r n1 n2 n3 = k3 := by unfold stp3; rw [HSB.out]; rfl
          have q := hC.out
          refine hid ?_
          simp [stU] at q ⊢
          simp [q, hs]
        clear HSB
        go_wp2
        exact ⟨⟨3, c1, c2, k3, by go_num, by omega, hC2, hL1, hF1⟩, by simp [intOf]⟩
      | true =>
        obtain ⟨x0, x1, x2⟩ := hX1.cells
        go_wp2_with fail
        refine (axisRises f3 t3 k3 _).mono ?_; rintro e V2 ⟨rfl, q2⟩
        have hF2 := hF1.trans (Fr.of_below (fun _ => False) q2) (fun _ _ e => e.elim)
        have hL2 := hL1.keep q2
        clear hF1 hL1 hX1 q2 x0 x1 x2
        obtain ⟨a0, a1, a2, a3, a4, a5, a6, a7, a8⟩ := hL2.cells
        have z0 := hL2.thaw 8
        have k0 := h3.c0
        have k1' := h3.c1
        by_cases hr : f3 < t3
        · have hC2 : Hid (c1 = stU 3 0 (stp3 f1 t1 k1 r n1 n2 n3) k1 ∧ c2 = stU 3 1 (stp3 f2 t2 k2 r n1 n2 n3) k2 ∧ (k3 + 1) = stU 3 2 (stp3 f3 t3 k3 r n1 n2 n3) k3) := by
            have hs : stp3 f3 t3 k3 r n1 n2 n3 = k3 + 1 := by unfold stp3 stepC; rw [HSB.out, if_pos hr]; rfl
            have q := hC.out
            refine hid ?_
            simp [stU] at q ⊢
            simp [q, hs]
          clear HSB
          have hL3 := hL2.set3 (k3 + 1)
          have hF3 := hF2.setCell (p := ⟨lb, 8, none⟩) rfl (.int .i64 (k3 + 1))
          go_wp2
          go_region
          go_wp2
          exact ⟨⟨3, c1, c2, (k3 + 1), by go_num, by omega, hC2, hL3.keep (below_drewN _ 1), hF3.drewN 1⟩, by simp [intOf]⟩
        · have hC2 : Hid (c1 = stU 3 0 (stp3 f1 t1 k1 r n1 n2 n3) k1 ∧ c2 = stU 3 1 (stp3 f2 t2 k2 r n1 n2 n3) k2 ∧ (k3 - 1) = stU 3 2 (stp3 f3 t3 k3 r n1 n2 n3) k3) := by
            have hs : stp3 f3 t3 k3 r n1 n2 n3 = k3 - 1 := by unfold stp3 stepC; rw [HSB.out, if_neg hr]; rfl
            have q := hC.out
            refine hid ?_
            simp [stU] at q ⊢
            simp [q, hs]
          clear HSB
          have hL3 := hL2.set3 (k3 - 1)
          have hF3 := hF2.setCell (p := ⟨lb, 8, none⟩) rfl (.int .i64 (k3 - 1))
          go_wp2
          go_region
          go_wp2
          exact ⟨⟨3, c1, c2, (k3 - 1), by go_num, by omega, hC2, hL3.keep (below_drewN _ 1), hF3.drewN 1⟩, by simp [intOf]⟩
    · obtain ⟨e1, e2, e3⟩ := hC.out
      have e1' : c1 = stp3 f1 t1 k1 r n1 n2 n3 := by rw [e1]; unfold stU; simp
      have e2' : c2 = stp3 f2 t2 k2 r n1 n2 n3 := by rw [e2]; unfold stU; simp
      have e3' : c3 = stp3 f3 t3 k3 r n1 n2 n3 := by rw [e3]; unfold stU; simp
      have HL := hid hL
      rw [e1', e2', e3'] at HL
      clear e1 e2 e3 e1' e2' e3' hL
      go_wp2
      refine bodyPost_end (v := .tuple #[]) ?_ rfl ⟨rfl, hF, HL.out⟩
      simp [results, Try.results32, go_sem]
end Go.Proofs.Ytpghdfleffgilaa
