/- Layer 9 (grid): what must be in any case (shown). -/
import Derived.Test.YtfcaekboonnmaaaGrJ
namespace Go.Proofs.Ytfcaekboonnmaaa
open Go.RowKit
set_option linter.unusedVariables false
set_option linter.unusedSimpArgs false
attribute [local go_sem ↓] Go.wp_at_zero Go.wp_at_succ

def nof : Nat → Bool := fun _ => false
def onef : Nat → Bool := fun i => decide (i = 1)
theorem sized_312 (f : Nat → Bool) : (mpOf 3 1 2 6 f).Sized := by simp [Mp.Sized, mpOf]
theorem sees_no : (mpOf 3 1 2 6 nof).Sees ⟨32768, 32768, 32768⟩ ⟨163840, 32768, 32768⟩ := (Mp.open_sees (sized_312 _) (fun _ _ => rfl)).2 (by simp [mpOf])
theorem sees_one : ¬ (mpOf 3 1 2 6 onef).Sees ⟨32768, 32768, 32768⟩ ⟨163840, 32768, 32768⟩ := fun h => by
  have := (Mp.straight (a := ⟨32768, 32768, 32768⟩) (b := ⟨163840, 32768, 32768⟩) (.inl ⟨rfl, rfl⟩)).1 h 1 0 0 (by decide) (by decide) (by decide) (by decide) (by decide) (by decide)
  exact absurd this (by decide)
theorem right_one : (mpOf 3 1 2 6 onef).RightP 1 (fun _ => 32768) (fun _ => 32768) (fun _ => 65536) := by
  refine ⟨sized_312 _, by decide, by decide, fun i _ => ?_⟩
  intro _ _ _ x y z a1 a2 a3 a4 a5 a6
  simp [sat] at a1 a2 a3 a4 a5 a6
  have ex : x = 0 := by omega
  have ey : y = 0 := by omega
  have ez : z = 0 ∨ z = 1 := by omega
  subst ex; subst ey
  rcases ez with rfl | rfl <;> decide
theorem right_none : ¬ (mpOf 3 1 2 6 nof).RightP 0 (fun _ => 0) (fun _ => 0) (fun _ => 0) := fun h => h.2.1 rfl
theorem at1 (w : World) : Calls Try.prog 27 #[.int .i64 1, .int .i64 1, .int .i64 1] w fun e w' => e = .returned (.agg #[.int .i64 32768, .int .i64 32768, .int .i64 32768]) ∧ Below w.heap.size w w' :=
  lawAt 1 1 1 (by omega) (by omega) (by omega) w
theorem at5 (w : World) : Calls Try.prog 27 #[.int .i64 5, .int .i64 1, .int .i64 1] w fun e w' => e = .returned (.agg #[.int .i64 163840, .int .i64 32768, .int .i64 32768]) ∧ Below w.heap.size w w' :=
  lawAt 5 1 1 (by omega) (by omega) (by omega) w
theorem open312 (w : World) : Calls Try.prog 25 #[.int .i64 3, .int .i64 1, .int .i64 2] w fun e w' => (∃ g, w.heap.size ≤ g ∧ w'.heap[g]? = some (.cells #[.bool false, .bool false, .bool false, .bool false, .bool false, .bool false] 4 (0, 0)) ∧ e = .returned (.agg #[.int .i64 3, .int .i64 1, .int .i64 2, .slice (some ⟨g, 0, none⟩) 6 6, .slice none 0 0])) ∧ Below w.heap.size w w' := by
  have h := lawOpen 3 1 2 6 ⟨by omega, by omega⟩ ⟨by omega, by omega⟩ ⟨by omega, by omega⟩ (wrapI (by omega) (by omega)) (wrapI (by omega) (by omega)) (by omega) w
  have e : madeCells #[Value.bool false] 6 = #[.bool false, .bool false, .bool false, .bool false, .bool false, .bool false] := by
    apply Array.ext'
    rw [toList_madeCells_one]
    rfl
  rw [e] at h
  exact h
/-- The cells of a map of six. -/
structure R6 (w : World) (g : Nat) (f : Nat → Bool) : Prop where
  obj : w.heap[g]? = some (.cells #[.bool (f 0), .bool (f 1), .bool (f 2), .bool (f 3), .bool (f 4), .bool (f 5)] 4 (0, 0))
theorem R6.lt {w : World} {g : Nat} {f : Nat → Bool} (h : R6 w g f) : g < w.heap.size := (Array.getElem?_eq_some_iff.1 h.obj).1
theorem R6.arg {w : World} {g : Nat} {f : Nat → Bool} (h : R6 w g f) : Arg w (some ⟨g, 0, none⟩) 6 6 fun i => .bool (f i) := by
  refine ⟨Nat.le_refl _, by unfold maxLen; omega, .inr ⟨g, 0, rfl, h.lt, fun i hi => ?_⟩⟩
  rw [Nat.zero_add, cell_of_row w g i _ 4 (0, 0) h.obj]
  have : i = 0 ∨ i = 1 ∨ i = 2 ∨ i = 3 ∨ i = 4 ∨ i = 5 := by omega
  rcases this with rfl | rfl | rfl | rfl | rfl | rfl <;> rfl
theorem R6.keep {w w' : World} {g : Nat} {f : Nat → Bool} (h : R6 w g f) (hb : Below w.heap.size w w') : R6 w' g f := ⟨by rw [hb.block g h.lt]; exact h.obj⟩
theorem R6.set1 {w : World} {g : Nat} (h : R6 w g nof) : R6 (w.setCell ⟨g, 1, none⟩ (.bool true)) g onef :=
  ⟨by
    have := heap_set_same (i := 1) h.obj (.bool true)
    simp only [List.setIfInBounds_toArray, List.set_cons_zero, List.set_cons_succ] at this
    refine this.trans ?_
    rfl⟩
theorem sol6 {g : Nat} (sp : Option Addr) (sn sc : Nat) (x y z : Int) (w : World) (hm : Arg w (some ⟨g, 0, none⟩) 6 6 fun i => .bool (onef i)) {b : Bool} (hb : (mpOf 3 1 2 6 onef).solid x y z = b) :
    Calls Try.prog 19 #[.agg #[.int .i64 3, .int .i64 1, .int .i64 2, .slice (some ⟨g, 0, none⟩) 6 6, .slice sp sn sc], .int .i64 x, .int .i64 y, .int .i64 z] w fun e w' => e = .returned (.bool b) ∧ Below w.heap.size w w' :=
  hb ▸ gridSolid 3 1 2 (some ⟨g, 0, none⟩) 6 6 onef sp sn sc x y z w hm
set_option maxHeartbeats 4000000 in
theorem lawShown (w : World) :
    Calls Try.prog 13 #[] w fun e w' => e = .returned (.bool true) ∧ Below w.heap.size w w' := by
  go_enter Try.func13, Try.ntmps13
  go_wp2_with fail
  refine (open312 _).mono ?_; rintro e V1 ⟨⟨g, hwg, ho, rfl⟩, B1⟩
  have R1 : R6 V1 g nof := ⟨ho⟩
  have hB0 := B1
  have O1 : (V1.alloc (.cells #[.int .i64 3, .int .i64 1, .int .i64 2, .slice (some ⟨g, 0, none⟩) 6 6, .slice none 0 0] 25)).heap[V1.heap.size]? = some (.cells #[.int .i64 3, .int .i64 1, .int .i64 2, .slice (some ⟨g, 0, none⟩) 6 6, .slice none 0 0] 25 (0, 0)) := heap_alloc_new _ _
  have M1 := MapAt.new V1 3 1 2 (.slice (some ⟨g, 0, none⟩) 6 6) (.slice none 0 0) 25
  have R1 := R1.keep ((Below.refl _ _).alloc (Nat.le_refl _) (.cells #[.int .i64 3, .int .i64 1, .int .i64 2, .slice (some ⟨g, 0, none⟩) 6 6, .slice none 0 0] 25))
  have B1 := B1.alloc B1.size (.cells #[.int .i64 3, .int .i64 1, .int .i64 2, .slice (some ⟨g, 0, none⟩) 6 6, .slice none 0 0] 25)
  obtain ⟨mb, hmb⟩ : ∃ b, V1.heap.size = b := ⟨_, rfl⟩
  rw [hmb] at M1 O1
  have hwm : w.heap.size ≤ mb := by rw [← hmb]; exact hB0.size
  clear hB0
  have hgm : g ≠ mb := by rw [← hmb]; have := (Array.getElem?_eq_some_iff.1 ho).1; omega
  clear ho
  go_wp2
  generalize V1.alloc (.cells #[.int .i64 3, .int .i64 1, .int .i64 2, .slice (some ⟨g, 0, none⟩) 6 6, .slice none 0 0] 25) = V2 at *
  clear hmb
  obtain ⟨m0, m1, m2, m3, m4, m5⟩ := M1
  have HB := hid B1
  have r1 : ∀ w', Below V2.heap.size V2 w' → w'.cell? ⟨mb, 0, none⟩ = some (.int .i64 3) := fun w' hb => keepCell hb m0 m1
  have r2 : ∀ w', Below V2.heap.size V2 w' → w'.cell? ⟨mb, 1, none⟩ = some (.int .i64 1) := fun w' hb => keepCell hb m0 m2
  have r3 : ∀ w', Below V2.heap.size V2 w' → w'.cell? ⟨mb, 2, none⟩ = some (.int .i64 2) := fun w' hb => keepCell hb m0 m3
  have r4 : ∀ w', Below V2.heap.size V2 w' → w'.cell? ⟨mb, 3, none⟩ = some (.slice (some ⟨g, 0, none⟩) 6 6) := fun w' hb => keepCell hb m0 m4
  have r5 : ∀ w', Below V2.heap.size V2 w' → w'.cell? ⟨mb, 4, none⟩ = some (.slice none 0 0) := fun w' hb => keepCell hb m0 m5
  clear B1
  refine region_held (fun w' => Below V2.heap.size V2 w') 5 rfl (by kernel_rfl) (below_drewN V2 1) ?_
  intro hHeld
  refine takeO 0 (some 8) (v := ?v1) rfl rfl (by kernel_rfl) (by kernel_rfl) (by kernel_rfl) (Or.inl ⟨by rfl, ?y1⟩) hHeld ?r1
  case y1 => (intro w' hSw; (try dsimp only at hSw); go_simp; try with_reducible rfl)
  try simp only [Act.put, List.setIfInBounds_toArray, List.set_cons_zero, List.set_cons_succ]
  refine wpAnyH_ready (rs := [1]) (by kernel_rfl) (by simp) ?_
  refine AllReadyH.cons rfl (fun K hK => ?_) AllReadyH.nil
  go_simp
  refine (at1 _).mono ?_
  rintro e U1 ⟨rfl, q1⟩
  dsimp only
  have B1 : Below V2.heap.size V2 U1 := Below.trans (below_drewN V2 1) q1
  refine hK.out _ _ B1 (fun hHeld => ?_)
  clear hK K q1
  refine wpAnyH_ready (rs := [2]) (by kernel_rfl) (by simp) ?_
  refine AllReadyH.cons rfl (fun K hK => ?_) AllReadyH.nil
  go_simp
  refine (at5 _).mono ?_
  rintro e U2 ⟨rfl, q2⟩
  dsimp only
  have B2 := btrans B1 q2
  refine hK.out _ _ B2 (fun hHeld => ?_)
  clear hK K q2 B1
  refine wpAnyH_ready (rs := [3]) (by kernel_rfl) (by simp) ?_
  refine AllReadyH.cons rfl (fun K hK => ?_) AllReadyH.nil
  go_simp
  refine (gridSight 3 1 2 (some ⟨g, 0, none⟩) 6 6 nof none 0 0 32768 32768 32768 163840 32768 32768 ⟨by omega, by omega⟩ ⟨by omega, by omega⟩ ⟨by omega, by omega⟩ ⟨by omega, by omega⟩ ⟨by omega, by omega⟩ ⟨by omega, by omega⟩ _ (R1.keep B2).arg true ⟨fun _ => sees_no, fun _ => rfl⟩).mono ?_
  rintro e U3 ⟨rfl, q3⟩
  dsimp only
  have B3 := btrans B2 q3
  refine hK.out _ _ B3 (fun hHeld => ?_)
  clear hK K q3 B2
  refine takeO 4 (some 2) (v := ?v2) rfl rfl (by kernel_rfl) (by kernel_rfl) (by kernel_rfl) (Or.inl ⟨by rfl, ?y2⟩) hHeld ?r2
  case y2 => (intro w' hSw; (try dsimp only at hSw); go_simp; try with_reducible rfl)
  try simp only [Act.put, List.setIfInBounds_toArray, List.set_cons_zero, List.set_cons_succ]
  refine wpAnyH_done (by kernel_rfl) (Only.on ?_) _
  clear hHeld r1 r2 r3 r4 r5
  have R3 := R1.keep B3
  have O3 := (B3.block mb m0).trans O1
  clear O1
  have M3 := (MapAt.mk m0 m1 m2 m3 m4 m5).keep B3
  have HB3 := hid (btrans HB.out B3)
  clear HB B3 R1 m0 m1 m2 m3 m4 m5
  obtain ⟨m0, m1, m2, m3, m4, m5⟩ := M3
  have ck : U3.cell? ⟨g, 1, none⟩ = some (.bool false) := by rw [cell_of_row U3 g 1 _ 4 (0, 0) R3.obj]; rfl
  have cf : U3.frozen? ⟨g, 1, none⟩ = false := by simp [World.frozen?, R3.obj]
  have R4 := R3.set1
  have M4 := (MapAt.mk m0 m1 m2 m3 m4 m5).fr ((Fr.refl (fun k => k = g) U3).setCell (p := ⟨g, 1, none⟩) rfl (.bool true)) (fun e => hgm e.symm)
  have B4 := HB3.out.setCell (p := ⟨g, 1, none⟩) hwg (.bool true)
  have O4 : (U3.setCell ⟨g, 1, none⟩ (.bool true)).heap[mb]? = _ := (Below.heap_setCell _ _ _ _ (fun e => hgm e.symm)).trans O3
  clear O3
  go_wp2
  generalize U3.setCell ⟨g, 1, none⟩ (.bool true) = V4 at *
  clear ck cf R3 HB3 m0 m1 m2 m3 m4 m5
  obtain ⟨m0, m1, m2, m3, m4, m5⟩ := M4
  have HB := hid B4
  clear B4
  have r1 : ∀ w', Below V4.heap.size V4 w' → w'.cell? ⟨mb, 0, none⟩ = some (.int .i64 3) := fun w' hb => keepCell hb m0 m1
  have r2 : ∀ w', Below V4.heap.size V4 w' → w'.cell? ⟨mb, 1, none⟩ = some (.int .i64 1) := fun w' hb => keepCell hb m0 m2
  have r3 : ∀ w', Below V4.heap.size V4 w' → w'.cell? ⟨mb, 2, none⟩ = some (.int .i64 2) := fun w' hb => keepCell hb m0 m3
  have r4 : ∀ w', Below V4.heap.size V4 w' → w'.cell? ⟨mb, 3, none⟩ = some (.slice (some ⟨g, 0, none⟩) 6 6) := fun w' hb => keepCell hb m0 m4
  have r5 : ∀ w', Below V4.heap.size V4 w' → w'.cell? ⟨mb, 4, none⟩ = some (.slice none 0 0) := fun w' hb => keepCell hb m0 m5
  refine region_held (fun w' => Below V4.heap.size V4 w') 5 rfl (by kernel_rfl) (below_drewN V4 1) ?_
  intro hHeld
  refine takeO 0 (some 15) (v := ?v3) rfl rfl (by kernel_rfl) (by kernel_rfl) (by kernel_rfl) (Or.inl ⟨by rfl, ?y3⟩) hHeld ?r3
  case y3 => (intro w' hSw; (try dsimp only at hSw); go_simp; try with_reducible rfl)
  try simp only [Act.put, List.setIfInBounds_toArray, List.set_cons_zero, List.set_cons_succ]
  refine wpAnyH_ready (rs := [1]) (by kernel_rfl) (by simp) ?_
  refine AllReadyH.cons rfl (fun K hK => ?_) AllReadyH.nil
  go_simp
  refine (at1 _).mono ?_
  rintro e X1 ⟨rfl, q1⟩
  dsimp only
  have B1 : Below V4.heap.size V4 X1 := Below.trans (below_drewN V4 1) q1
  refine hK.out _ _ B1 (fun hHeld => ?_)
  clear hK K q1
  refine wpAnyH_ready (rs := [2]) (by kernel_rfl) (by simp) ?_
  refine AllReadyH.cons rfl (fun K hK => ?_) AllReadyH.nil
  go_simp
  refine (at5 _).mono ?_
  rintro e X2 ⟨rfl, q2⟩
  dsimp only
  have B2 := btrans B1 q2
  refine hK.out _ _ B2 (fun hHeld => ?_)
  clear hK K q2 B1
  refine wpAnyH_ready (rs := [3]) (by kernel_rfl) (by simp) ?_
  refine AllReadyH.cons rfl (fun K hK => ?_) AllReadyH.nil
  go_simp
  refine (gridSight 3 1 2 (some ⟨g, 0, none⟩) 6 6 onef none 0 0 32768 32768 32768 163840 32768 32768 ⟨by omega, by omega⟩ ⟨by omega, by omega⟩ ⟨by omega, by omega⟩ ⟨by omega, by omega⟩ ⟨by omega, by omega⟩ ⟨by omega, by omega⟩ _ (R4.keep B2).arg false ⟨fun e => absurd e (by decide), fun e => absurd e sees_one⟩).mono ?_
  rintro e X3 ⟨rfl, q3⟩
  dsimp only
  have B3 := btrans B2 q3
  refine hK.out _ _ B3 (fun hHeld => ?_)
  clear hK K q3 B2
  refine takeO 4 (some 3) (v := ?v4) rfl rfl (by kernel_rfl) (by kernel_rfl) (by kernel_rfl) (Or.inl ⟨by rfl, ?y4⟩) hHeld ?r4
  case y4 => (intro w' hSw; (try dsimp only at hSw); go_simp; try with_reducible rfl)
  try simp only [Act.put, List.setIfInBounds_toArray, List.set_cons_zero, List.set_cons_succ]
  refine wpAnyH_done (by kernel_rfl) (Only.on ?_) _
  clear hHeld r1 r2 r3 r4 r5
  have R3 := R4.keep B3
  have O5 := (B3.block mb m0).trans O4
  clear O4
  have M3 := (MapAt.mk m0 m1 m2 m3 m4 m5).keep B3
  have HB3 := hid (btrans HB.out B3)
  clear HB B3 R4 m0 m1 m2 m3 m4 m5
  obtain ⟨m0, m1, m2, m3, m4, m5⟩ := M3
  have mf : X3.frozen? ⟨mb, 4, none⟩ = false := by simp [World.frozen?, O5]
  clear O5
  go_wp2_with fail
  have M6 : MapAt ((X3.setCell ⟨mb, 4, none⟩ (.slice (some ⟨X3.heap.size, 0, none⟩) 1 1)).alloc (.cells #[.int .i64 32768, .int .i64 32768, .int .i64 65536] 27)) mb 3 1 2 (.slice (some ⟨g, 0, none⟩) 6 6) (.slice (some ⟨X3.heap.size, 0, none⟩) 1 1) := by
    refine MapAt.alloc ⟨by simpa [World.setCell] using m0, ?_, ?_, ?_, ?_, World.cell?_setCell_same _ _ _ m5⟩ _
    · rw [World.cell?_setCell_other _ _ _ _ (by simp)]; exact m1
    · rw [World.cell?_setCell_other _ _ _ _ (by simp)]; exact m2
    · rw [World.cell?_setCell_other _ _ _ _ (by simp)]; exact m3
    · rw [World.cell?_setCell_other _ _ _ _ (by simp)]; exact m4
  have R6' : R6 ((X3.setCell ⟨mb, 4, none⟩ (.slice (some ⟨X3.heap.size, 0, none⟩) 1 1)).alloc (.cells #[.int .i64 32768, .int .i64 32768, .int .i64 65536] 27)) g onef := by
    have : R6 (X3.setCell ⟨mb, 4, none⟩ (.slice (some ⟨X3.heap.size, 0, none⟩) 1 1)) g onef := ⟨by rw [Below.heap_setCell _ _ _ _ hgm]; exact R3.obj⟩
    exact this.keep ((Below.refl _ _).alloc (Nat.le_refl _) _)
  have hrow : ((X3.setCell ⟨mb, 4, none⟩ (.slice (some ⟨X3.heap.size, 0, none⟩) 1 1)).alloc (.cells #[.int .i64 32768, .int .i64 32768, .int .i64 65536] 27)).heap[X3.heap.size]? = some (.cells #[.int .i64 32768, .int .i64 32768, .int .i64 65536] 27 (0, 0)) := by
    have := heap_alloc_new (X3.setCell ⟨mb, 4, none⟩ (.slice (some ⟨X3.heap.size, 0, none⟩) 1 1)) (.cells #[.int .i64 32768, .int .i64 32768, .int .i64 65536] 27)
    simpa [World.setCell] using this
  have B6 : Below w.heap.size w ((X3.setCell ⟨mb, 4, none⟩ (.slice (some ⟨X3.heap.size, 0, none⟩) 1 1)).alloc (.cells #[.int .i64 32768, .int .i64 32768, .int .i64 65536] 27)) := (HB3.out.setCell (p := ⟨mb, 4, none⟩) hwm _).alloc (by simpa [World.setCell] using HB3.out.size) _
  obtain ⟨rb, hrb⟩ : ∃ b, X3.heap.size = b := ⟨_, rfl⟩
  rw [hrb] at M6 R6' hrow B6
  simp only [hrb]
  clear hrb m0 m1 m2 m3 m4 m5 R3 HB3
  generalize (X3.setCell ⟨mb, 4, none⟩ (.slice (some ⟨rb, 0, none⟩) 1 1)).alloc (.cells #[.int .i64 32768, .int .i64 32768, .int .i64 65536] 27) = V6 at *
  have A6 : ArgW V6 (some ⟨rb, 0, none⟩) 1 1 (fun _ => 32768) (fun _ => 32768) (fun _ => 65536) := by
    refine ⟨Nat.le_refl _, by unfold maxLen; omega, .inr ⟨rb, 0, rfl, (Array.getElem?_eq_some_iff.1 hrow).1, fun i hi => ?_⟩⟩
    obtain rfl : i = 0 := by omega
    exact ⟨cell_of_row V6 rb 0 _ _ (0, 0) hrow, cell_of_row V6 rb 1 _ _ (0, 0) hrow, cell_of_row V6 rb 2 _ _ (0, 0) hrow⟩
  clear hrow
  refine (gridAt (-1) 65536 65535 ⟨by omega, by omega⟩ ⟨by omega, by omega⟩ ⟨by omega, by omega⟩ _).mono ?_; rintro e V7 ⟨rfl, q7⟩
  have M7 := M6.keep q7
  have R7 := R6'.keep q7
  have A7 := A6.keep q7
  have B7 := btrans B6 q7
  clear q7 M6 R6' A6 B6
  obtain ⟨m0, m1, m2, m3, m4, m5⟩ := M7
  go_wp2_with fail
  refine (gridRight 3 1 2 (some ⟨g, 0, none⟩) 6 6 onef (some ⟨rb, 0, none⟩) 1 1 (fun _ => 32768) (fun _ => 32768) (fun _ => 65536) (fun _ => ⟨⟨by omega, by omega⟩, ⟨by omega, by omega⟩, ⟨by omega, by omega⟩⟩) V7 R7.arg A7 true ⟨fun _ => right_one, fun _ => rfl⟩).mono ?_; rintro e V8 ⟨rfl, q8⟩
  have M8 := (MapAt.mk m0 m1 m2 m3 m4 m5).keep q8
  have R8 := R7.keep q8
  have B8 := btrans B7 q8
  clear q8 R7 A7 B7 m0 m1 m2 m3 m4 m5
  go_wp2_with fail
  refine (open312 _).mono ?_; rintro e V9 ⟨⟨g', hwg', ho, rfl⟩, q9⟩
  have M9 := M8.keep q9
  have R9 := R8.keep q9
  have B9 := btrans B8 q9
  have S9 : R6 V9 g' nof := ⟨ho⟩
  clear q9 M8 R8 B8 ho
  go_wp2_with fail
  refine (gridRight 3 1 2 (some ⟨g', 0, none⟩) 6 6 nof none 0 0 (fun _ => 0) (fun _ => 0) (fun _ => 0) (fun _ => ⟨⟨by omega, by omega⟩, ⟨by omega, by omega⟩, ⟨by omega, by omega⟩⟩) V9 S9.arg ⟨Nat.le_refl _, by unfold maxLen; omega, .inl rfl⟩ false ⟨fun e => absurd e (by decide), fun e => absurd e right_none⟩).mono ?_; rintro e V10 ⟨rfl, q10⟩
  have M10 := M9.keep q10
  have R10 := R9.keep q10
  have B10 := btrans B9 q10
  clear q10 M9 R9 B9 S9
  obtain ⟨m0, m1, m2, m3, m4, m5⟩ := M10
  go_wp2_with fail
  refine (sol6 (some ⟨rb, 0, none⟩) 1 1 1 0 0 V10 R10.arg (b := true) (by decide)).mono ?_; rintro e V11 ⟨rfl, q11⟩
  have M11 := (MapAt.mk m0 m1 m2 m3 m4 m5).keep q11
  have R11 := R10.keep q11
  have B11 := btrans B10 q11
  clear q11 R10 B10 m0 m1 m2 m3 m4 m5
  obtain ⟨m0, m1, m2, m3, m4, m5⟩ := M11
  go_wp2_with fail
  refine (sol6 (some ⟨rb, 0, none⟩) 1 1 0 0 0 V11 R11.arg (b := false) (by decide)).mono ?_; rintro e V12 ⟨rfl, q12⟩
  have M12 := (MapAt.mk m0 m1 m2 m3 m4 m5).keep q12
  have R12 := R11.keep q12
  have B12 := btrans B11 q12
  clear q12 R11 B11 m0 m1 m2 m3 m4 m5
  obtain ⟨m0, m1, m2, m3, m4, m5⟩ := M12
  go_wp2_with fail
  refine (sol6 (some ⟨rb, 0, none⟩) 1 1 3 0 0 V12 R12.arg (b := true) (by decide)).mono ?_; rintro e V13 ⟨rfl, q13⟩
  have M13 := (MapAt.mk m0 m1 m2 m3 m4 m5).keep q13
  have R13 := R12.keep q13
  have B13 := btrans B12 q13
  clear q13 R12 B12 m0 m1 m2 m3 m4 m5
  obtain ⟨m0, m1, m2, m3, m4, m5⟩ := M13
  go_wp2
  go_ret
  exact ⟨rfl, B13⟩
end Go.Proofs.Ytfcaekboonnmaaa
