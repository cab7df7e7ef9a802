/- Layer 5 (message): the document's reader: a message of the kind 4. -/
import Derived.Test.YtneaanmchachlaaNvB
namespace Go.Proofs.Ytneaanmchachlaa
open Go.RowKit Go.Shelf
set_option linter.unusedVariables false
set_option linter.unusedSimpArgs false
attribute [local go_sem ↓] Go.wp_at_zero Go.wp_at_succ
set_option maxRecDepth 100000 in
set_option maxHeartbeats 4000000 in
theorem messageX4 {w : World} {b : Nat} {l : List Bool} (h : RX w b (l, 0)) (hk : Pg.rdx false (tkv (l, 0) 4) = 4) :
    Calls Try.prog 38 #[.pointer (some ⟨b, 0, none⟩)] w fun e w' => MXP w b (l, 0) e w' := by
  have hst := kind_ok h hk (by omega) (by omega)
  obtain ⟨t0, ht0⟩ : ∃ q, (Pg.rdS false (l, 0) 0 rKind).2 = q := ⟨_, rfl⟩
  rw [ht0] at hst
  obtain ⟨hn4, hrun⟩ := hst
  have HRUN := hid hrun; have HT0 := hid ht0
  have hM := RM.start 40 zMsg h
  have HM := hid hM
  have hz : (w.alloc (.cells zMsg 40)).heap.size = w.heap.size + 1 := by simp
  clear hM h hrun ht0 hk
  go_enter Try.func38, Try.ntmps38
  go_wp2_with (refine wpList_store_row rfl 40 _ _ rfl (w.heap.size + 1) zMsg rfl rfl 40 zMsg (by rw [← hz]; exact heap_alloc_new _ _) size_msg rfl one23 ?_; rw [← hz, World.setRow_alloc_new, hz]; generalize (w.alloc (.cells zMsg 40)).alloc (.cells zMsg 40) = u0 at *)
  clear hz
  refine (HM.out.call (t2 := tk (l, 0) 4) hn4).mono ?_; rintro e wk ⟨rfl, hM⟩
  have tc := hM.bx.cell (i := 0) rfl
  have fc := hM.bx.thaw 0
  have hM2 := hM.set 0 (.int .i64 4)
  simp only [List.setIfInBounds_toArray, List.set_cons_zero, List.set_cons_succ] at hM2
  have pc := hM2.bx.cell (i := 0) rfl
  have HM2 := hid hM2
  clear hM hM2 HM hn4
  go_wp2_with fail
  clear tc fc pc
  refine (HM2.out.call (fun h => mustX h true)).mono ?_; rintro e wm ⟨rfl, hM⟩
  rw [mst_true] at hM
  have hM := hM.sub (HRUN.out.st)
  have HM := hid hM
  have pc := hM.bx.cell (i := 0) rfl
  clear hM HM2

  go_upto_region 38 with fail
  clear pc
  go_step
  refine wpList_load_row rfl 40 _ rfl (w.heap.size + 1) rfl 40 #[.int .i64 4, .int .u16 0, .int .u16 0, .int .u8 0, .int .i8 0, .int .i8 0, .int .i64 0, .int .u16 0, .int .i64 0, .int .i64 0, .int .i64 0, .int .i64 0, .int .i64 0, .int .i64 0, .int .i64 0, .int .i64 0, .int .i64 0, .int .i64 0, .int .i64 0, .int .i64 0, .int .u32 0, .int .u32 0, .slice none 0 0] (0, 0) _ HM.out.bx.obj Try.underlying40 rfl size_msg ?_
  refine wpList_store_row rfl 40 _ _ rfl w.heap.size #[.int .i64 4, .int .u16 0, .int .u16 0, .int .u8 0, .int .i8 0, .int .i8 0, .int .i64 0, .int .u16 0, .int .i64 0, .int .i64 0, .int .i64 0, .int .i64 0, .int .i64 0, .int .i64 0, .int .i64 0, .int .i64 0, .int .i64 0, .int .i64 0, .int .i64 0, .int .i64 0, .int .u32 0, .int .u32 0, .slice none 0 0] rfl rfl 40 zMsg HM.out.ax.obj size_msg rfl one23 ?_
  go_wp2_with fail
  have E := HM.out.ax.setRow #[.int .i64 4, .int .u16 0, .int .u16 0, .int .u8 0, .int .i8 0, .int .i8 0, .int .i64 0, .int .u16 0, .int .i64 0, .int .i64 0, .int .i64 0, .int .i64 0, .int .i64 0, .int .i64 0, .int .i64 0, .int .i64 0, .int .i64 0, .int .i64 0, .int .i64 0, .int .i64 0, .int .u32 0, .int .u32 0, .slice none 0 0]
  have F3 : Fr (fun k => k = w.heap.size) wm (wm.setRow w.heap.size #[.int .i64 4, .int .u16 0, .int .u16 0, .int .u8 0, .int .i8 0, .int .i8 0, .int .i64 0, .int .u16 0, .int .i64 0, .int .i64 0, .int .i64 0, .int .i64 0, .int .i64 0, .int .i64 0, .int .i64 0, .int .i64 0, .int .i64 0, .int .i64 0, .int .i64 0, .int .i64 0, .int .u32 0, .int .u32 0, .slice none 0 0]) := Fr.setRow (S := fun k => k = w.heap.size) (Fr.refl _ _) rfl _
  have hb := HM.out.hb
  have hR := HM.out.rx.fr F3 (by omega)
  have hF : Fr (fun k => k = b) w (wm.setRow w.heap.size #[.int .i64 4, .int .u16 0, .int .u16 0, .int .u8 0, .int .i8 0, .int .i8 0, .int .i64 0, .int .u16 0, .int .i64 0, .int .i64 0, .int .i64 0, .int .i64 0, .int .i64 0, .int .i64 0, .int .i64 0, .int .i64 0, .int .i64 0, .int .i64 0, .int .i64 0, .int .i64 0, .int .u32 0, .int .u32 0, .slice none 0 0]) := ⟨F3.os.trans HM.out.fr.os, F3.tape.trans HM.out.fr.tape, F3.output.trans HM.out.fr.output, Nat.le_trans HM.out.fr.size F3.size, fun k hk hS => (F3.block k (Nat.lt_of_lt_of_le hk HM.out.fr.size) (by omega)).trans (HM.out.fr.block k hk hS)⟩
  refine bodyPost_ret (v := .agg #[.int .i64 4, .int .u16 0, .int .u16 0, .int .u8 0, .int .i8 0, .int .i8 0, .int .i64 0, .int .u16 0, .int .i64 0, .int .i64 0, .int .i64 0, .int .i64 0, .int .i64 0, .int .i64 0, .int .i64 0, .int .i64 0, .int .i64 0, .int .i64 0, .int .i64 0, .int .i64 0, .int .u32 0, .int .u32 0, .slice none 0 0]) ?hres ?hdef ?_
  case hres => exact results_cell_row rfl _ _ w.heap.size 40 #[.int .i64 4, .int .u16 0, .int .u16 0, .int .u8 0, .int .i8 0, .int .i8 0, .int .i64 0, .int .u16 0, .int .i64 0, .int .i64 0, .int .i64 0, .int .i64 0, .int .i64 0, .int .i64 0, .int .i64 0, .int .i64 0, .int .i64 0, .int .i64 0, .int .i64 0, .int .i64 0, .int .u32 0, .int .u32 0, .slice none 0 0] (0, 0) _ rfl E.obj Try.underlying40 rfl size_msg
  case hdef => rfl

  refine ⟨bare 4, .slice none 0 0, rfl, MX.of HRUN.out ?_ (by constructor <;> simp [bare, c0, v0] <;> omega) (by simp [bare]) (Row.nil _ _) hR hF⟩
  rw [fields4]
  exact ⟨rfl, fun _ => rfl⟩
open Go.RowKit Go.Shelf
set_option linter.unusedVariables false
set_option linter.unusedSimpArgs false
attribute [local go_sem ↓] Go.wp_at_zero Go.wp_at_succ
set_option maxRecDepth 100000 in
set_option maxHeartbeats 4000000 in
theorem messageX5 {w : World} {b : Nat} {l : List Bool} (h : RX w b (l, 0)) (hk : Pg.rdx false (tkv (l, 0) 4) = 5) :
    Calls Try.prog 38 #[.pointer (some ⟨b, 0, none⟩)] w fun e w' => MXP w b (l, 0) e w' := by
  have hst := kind_ok h hk (by omega) (by omega)
  obtain ⟨t0, ht0⟩ : ∃ q, (Pg.rdS false (l, 0) 0 rKind).2 = q := ⟨_, rfl⟩
  rw [ht0] at hst
  obtain ⟨hn4, hrun⟩ := hst
  have HRUN := hid hrun; have HT0 := hid ht0
  have hM := RM.start 40 zMsg h
  have HM := hid hM
  have hz : (w.alloc (.cells zMsg 40)).heap.size = w.heap.size + 1 := by simp
  clear hM h hrun ht0 hk
  go_enter Try.func38, Try.ntmps38
  go_wp2_with (refine wpList_store_row rfl 40 _ _ rfl (w.heap.size + 1) zMsg rfl rfl 40 zMsg (by rw [← hz]; exact heap_alloc_new _ _) size_msg rfl one23 ?_; rw [← hz, World.setRow_alloc_new, hz]; generalize (w.alloc (.cells zMsg 40)).alloc (.cells zMsg 40) = u0 at *)
  clear hz
  refine (HM.out.call (t2 := tk (l, 0) 4) hn4).mono ?_; rintro e wk ⟨rfl, hM⟩
  have tc := hM.bx.cell (i := 0) rfl
  have fc := hM.bx.thaw 0
  have hM2 := hM.set 0 (.int .i64 5)
  simp only [List.setIfInBounds_toArray, List.set_cons_zero, List.set_cons_succ] at hM2
  have pc := hM2.bx.cell (i := 0) rfl
  have HM2 := hid hM2
  clear hM hM2 HM hn4
  go_wp2_with fail
  clear tc fc pc
  refine (HM2.out.call (fun h => mustX h true)).mono ?_; rintro e wm ⟨rfl, hM⟩
  rw [mst_true] at hM
  have hM := hM.sub (HRUN.out.st)
  have HM := hid hM
  have pc := hM.bx.cell (i := 0) rfl
  clear hM HM2

  go_wp2_with fail
  clear pc
  refine (HM.out.id).mono ?_; rintro e w1 ⟨y1, t1, rfl, he, hv, hM⟩
  have HE1 := hid he; have HV1 := hid hv
  have tc := hM.bx.cell (i := 8) rfl
  have fc := hM.bx.thaw 8
  have hM2 := hM.set 8 (.int .i64 y1)
  simp only [List.setIfInBounds_toArray, List.set_cons_zero, List.set_cons_succ] at hM2
  clear HM hM he hv
  have HM := hid hM2
  clear hM2
  go_upto_region 38 with fail
  clear tc fc
  generalize (w1.setCell ⟨w.heap.size + 1, 8, none⟩ (.int .i64 y1)) = v1 at *
  go_step
  refine wpList_load_row rfl 40 _ rfl (w.heap.size + 1) rfl 40 #[.int .i64 5, .int .u16 0, .int .u16 0, .int .u8 0, .int .i8 0, .int .i8 0, .int .i64 0, .int .u16 0, .int .i64 y1, .int .i64 0, .int .i64 0, .int .i64 0, .int .i64 0, .int .i64 0, .int .i64 0, .int .i64 0, .int .i64 0, .int .i64 0, .int .i64 0, .int .i64 0, .int .u32 0, .int .u32 0, .slice none 0 0] (0, 0) _ HM.out.bx.obj Try.underlying40 rfl size_msg ?_
  refine wpList_store_row rfl 40 _ _ rfl w.heap.size #[.int .i64 5, .int .u16 0, .int .u16 0, .int .u8 0, .int .i8 0, .int .i8 0, .int .i64 0, .int .u16 0, .int .i64 y1, .int .i64 0, .int .i64 0, .int .i64 0, .int .i64 0, .int .i64 0, .int .i64 0, .int .i64 0, .int .i64 0, .int .i64 0, .int .i64 0, .int .i64 0, .int .u32 0, .int .u32 0, .slice none 0 0] rfl rfl 40 zMsg HM.out.ax.obj size_msg rfl one23 ?_
  go_wp2_with fail
  have E := HM.out.ax.setRow #[.int .i64 5, .int .u16 0, .int .u16 0, .int .u8 0, .int .i8 0, .int .i8 0, .int .i64 0, .int .u16 0, .int .i64 y1, .int .i64 0, .int .i64 0, .int .i64 0, .int .i64 0, .int .i64 0, .int .i64 0, .int .i64 0, .int .i64 0, .int .i64 0, .int .i64 0, .int .i64 0, .int .u32 0, .int .u32 0, .slice none 0 0]
  have F3 : Fr (fun k => k = w.heap.size) v1 (v1.setRow w.heap.size #[.int .i64 5, .int .u16 0, .int .u16 0, .int .u8 0, .int .i8 0, .int .i8 0, .int .i64 0, .int .u16 0, .int .i64 y1, .int .i64 0, .int .i64 0, .int .i64 0, .int .i64 0, .int .i64 0, .int .i64 0, .int .i64 0, .int .i64 0, .int .i64 0, .int .i64 0, .int .i64 0, .int .u32 0, .int .u32 0, .slice none 0 0]) := Fr.setRow (S := fun k => k = w.heap.size) (Fr.refl _ _) rfl _
  have hb := HM.out.hb
  have hR := HM.out.rx.fr F3 (by omega)
  have hF : Fr (fun k => k = b) w (v1.setRow w.heap.size #[.int .i64 5, .int .u16 0, .int .u16 0, .int .u8 0, .int .i8 0, .int .i8 0, .int .i64 0, .int .u16 0, .int .i64 y1, .int .i64 0, .int .i64 0, .int .i64 0, .int .i64 0, .int .i64 0, .int .i64 0, .int .i64 0, .int .i64 0, .int .i64 0, .int .i64 0, .int .i64 0, .int .u32 0, .int .u32 0, .slice none 0 0]) := ⟨F3.os.trans HM.out.fr.os, F3.tape.trans HM.out.fr.tape, F3.output.trans HM.out.fr.output, Nat.le_trans HM.out.fr.size F3.size, fun k hk hS => (F3.block k (Nat.lt_of_lt_of_le hk HM.out.fr.size) (by omega)).trans (HM.out.fr.block k hk hS)⟩
  refine bodyPost_ret (v := .agg #[.int .i64 5, .int .u16 0, .int .u16 0, .int .u8 0, .int .i8 0, .int .i8 0, .int .i64 0, .int .u16 0, .int .i64 y1, .int .i64 0, .int .i64 0, .int .i64 0, .int .i64 0, .int .i64 0, .int .i64 0, .int .i64 0, .int .i64 0, .int .i64 0, .int .i64 0, .int .i64 0, .int .u32 0, .int .u32 0, .slice none 0 0]) ?hres ?hdef ?_
  case hres => exact results_cell_row rfl _ _ w.heap.size 40 #[.int .i64 5, .int .u16 0, .int .u16 0, .int .u8 0, .int .i8 0, .int .i8 0, .int .i64 0, .int .u16 0, .int .i64 y1, .int .i64 0, .int .i64 0, .int .i64 0, .int .i64 0, .int .i64 0, .int .i64 0, .int .i64 0, .int .i64 0, .int .i64 0, .int .i64 0, .int .i64 0, .int .u32 0, .int .u32 0, .slice none 0 0] (0, 0) _ rfl E.obj Try.underlying40 rfl size_msg
  case hdef => rfl

  refine ⟨{ bare 5 with id := y1 }, .slice none 0 0, rfl, MX.of HRUN.out ?_ (by constructor <;> simp [bare, c0, v0] <;> omega) (by simp [bare]) (Row.nil _ _) hR hF⟩
  rw [fields5]
  refine ⟨by simp only [true_and, HE1.out], fun h0 => ?_⟩
  have z1 := h0
  have z0 : t0.2 = 0 := rdS_zero (by rw [HE1.out]; exact z1)
  have x1 := HV1.out z1
  simp only [true_and, HE1.out, x1]
open Go.RowKit Go.Shelf
set_option linter.unusedVariables false
set_option linter.unusedSimpArgs false
attribute [local go_sem ↓] Go.wp_at_zero Go.wp_at_succ
set_option maxRecDepth 100000 in
set_option maxHeartbeats 4000000 in
theorem messageX6 {w : World} {b : Nat} {l : List Bool} (h : RX w b (l, 0)) (hk : Pg.rdx false (tkv (l, 0) 4) = 6) :
    Calls Try.prog 38 #[.pointer (some ⟨b, 0, none⟩)] w fun e w' => MXP w b (l, 0) e w' := by
  have hst := kind_ok h hk (by omega) (by omega)
  obtain ⟨t0, ht0⟩ : ∃ q, (Pg.rdS false (l, 0) 0 rKind).2 = q := ⟨_, rfl⟩
  rw [ht0] at hst
  obtain ⟨hn4, hrun⟩ := hst
  have HRUN := hid hrun; have HT0 := hid ht0
  have hM := RM.start 40 zMsg h
  have HM := hid hM
  have hz : (w.alloc (.cells zMsg 40)).heap.size = w.heap.size + 1 := by simp
  clear hM h hrun ht0 hk
  go_enter Try.func38, Try.ntmps38
  go_wp2_with (refine wpList_store_row rfl 40 _ _ rfl (w.heap.size + 1) zMsg rfl rfl 40 zMsg (by rw [← hz]; exact heap_alloc_new _ _) size_msg rfl one23 ?_; rw [← hz, World.setRow_alloc_new, hz]; generalize (w.alloc (.cells zMsg 40)).alloc (.cells zMsg 40) = u0 at *)
  clear hz
  refine (HM.out.call (t2 := tk (l, 0) 4) hn4).mono ?_; rintro e wk ⟨rfl, hM⟩
  have tc := hM.bx.cell (i := 0) rfl
  have fc := hM.bx.thaw 0
  have hM2 := hM.set 0 (.int .i64 6)
  simp only [List.setIfInBounds_toArray, List.set_cons_zero, List.set_cons_succ] at hM2
  have pc := hM2.bx.cell (i := 0) rfl
  have HM2 := hid hM2
  clear hM hM2 HM hn4
  go_wp2_with fail
  clear tc fc pc
  refine (HM2.out.call (fun h => mustX h true)).mono ?_; rintro e wm ⟨rfl, hM⟩
  rw [mst_true] at hM
  have hM := hM.sub (HRUN.out.st)
  have HM := hid hM
  have pc := hM.bx.cell (i := 0) rfl
  clear hM HM2

  go_wp2_with fail
  clear pc
  refine (HM.out.num 16 (by omega)).mono ?_; rintro e w1 ⟨y1, t1, rfl, he, hv, hr, hM⟩
  have hr1 : 0 ≤ y1 ∧ y1 ≤ 65535 := ⟨hr.1, by have := hr.2; omega⟩
  have qw : IntKind.u16.wrap y1 = y1 := wrapU_u16 hr1.1 (by omega)
  clear hr
  have HE1 := hid he; have HV1 := hid hv
  have tc := hM.bx.cell (i := 1) rfl
  have fc := hM.bx.thaw 1
  have hM2 := hM.set 1 (.int .u16 y1)
  simp only [List.setIfInBounds_toArray, List.set_cons_zero, List.set_cons_succ] at hM2
  clear HM hM he hv
  have HM := hid hM2
  clear hM2
  go_wp2_with fail
  clear tc fc qw
  generalize (w1.setCell ⟨w.heap.size + 1, 1, none⟩ (.int .u16 y1)) = v1 at *
  refine (HM.out.vecF).mono ?_; rintro e w2 ⟨y2x, y2y, y2z, t2, rfl, he, hv, hM⟩
  have HE2 := hid he; have HV2 := hid hv
  have tc0 := hM.bx.cell (i := 14) rfl; have tc1 := hM.bx.cell (i := 15) rfl; have tc2 := hM.bx.cell (i := 16) rfl
  have fc := hM.bx.thaw
  have hM2 := ((hM.set 14 (.int .i64 y2x)).set 15 (.int .i64 y2y)).set 16 (.int .i64 y2z)
  simp only [List.setIfInBounds_toArray, List.set_cons_zero, List.set_cons_succ] at hM2
  clear HM hM he hv
  have HM := hid hM2
  clear hM2
  go_wp2_with fail
  clear tc0 tc1 tc2 fc
  generalize (((w2.setCell ⟨w.heap.size + 1, 14, none⟩ (.int .i64 y2x)).setCell ⟨w.heap.size + 1, 15, none⟩ (.int .i64 y2y)).setCell ⟨w.heap.size + 1, 16, none⟩ (.int .i64 y2z)) = v2 at *
  refine (HM.out.vecF).mono ?_; rintro e w3 ⟨y3x, y3y, y3z, t3, rfl, he, hv, hM⟩
  have HE3 := hid he; have HV3 := hid hv
  have tc0 := hM.bx.cell (i := 17) rfl; have tc1 := hM.bx.cell (i := 18) rfl; have tc2 := hM.bx.cell (i := 19) rfl
  have fc := hM.bx.thaw
  have hM2 := ((hM.set 17 (.int .i64 y3x)).set 18 (.int .i64 y3y)).set 19 (.int .i64 y3z)
  simp only [List.setIfInBounds_toArray, List.set_cons_zero, List.set_cons_succ] at hM2
  clear HM hM he hv
  have HM := hid hM2
  clear hM2
  go_upto_region 38 with fail
  clear tc0 tc1 tc2 fc
  generalize (((w3.setCell ⟨w.heap.size + 1, 17, none⟩ (.int .i64 y3x)).setCell ⟨w.heap.size + 1, 18, none⟩ (.int .i64 y3y)).setCell ⟨w.heap.size + 1, 19, none⟩ (.int .i64 y3z)) = v3 at *
  go_step
  refine wpList_load_row rfl 40 _ rfl (w.heap.size + 1) rfl 40 #[.int .i64 6, .int .u16 y1, .int .u16 0, .int .u8 0, .int .i8 0, .int .i8 0, .int .i64 0, .int .u16 0, .int .i64 0, .int .i64 0, .int .i64 0, .int .i64 0, .int .i64 0, .int .i64 0, .int .i64 y2x, .int .i64 y2y, .int .i64 y2z, .int .i64 y3x, .int .i64 y3y, .int .i64 y3z, .int .u32 0, .int .u32 0, .slice none 0 0] (0, 0) _ HM.out.bx.obj Try.underlying40 rfl size_msg ?_
  refine wpList_store_row rfl 40 _ _ rfl w.heap.size #[.int .i64 6, .int .u16 y1, .int .u16 0, .int .u8 0, .int .i8 0, .int .i8 0, .int .i64 0, .int .u16 0, .int .i64 0, .int .i64 0, .int .i64 0, .int .i64 0, .int .i64 0, .int .i64 0, .int .i64 y2x, .int .i64 y2y, .int .i64 y2z, .int .i64 y3x, .int .i64 y3y, .int .i64 y3z, .int .u32 0, .int .u32 0, .slice none 0 0] rfl rfl 40 zMsg HM.out.ax.obj size_msg rfl one23 ?_
  go_wp2_with fail
  have E := HM.out.ax.setRow #[.int .i64 6, .int .u16 y1, .int .u16 0, .int .u8 0, .int .i8 0, .int .i8 0, .int .i64 0, .int .u16 0, .int .i64 0, .int .i64 0, .int .i64 0, .int .i64 0, .int .i64 0, .int .i64 0, .int .i64 y2x, .int .i64 y2y, .int .i64 y2z, .int .i64 y3x, .int .i64 y3y, .int .i64 y3z, .int .u32 0, .int .u32 0, .slice none 0 0]
  have F3 : Fr (fun k => k = w.heap.size) v3 (v3.setRow w.heap.size #[.int .i64 6, .int .u16 y1, .int .u16 0, .int .u8 0, .int .i8 0, .int .i8 0, .int .i64 0, .int .u16 0, .int .i64 0, .int .i64 0, .int .i64 0, .int .i64 0, .int .i64 0, .int .i64 0, .int .i64 y2x, .int .i64 y2y, .int .i64 y2z, .int .i64 y3x, .int .i64 y3y, .int .i64 y3z, .int .u32 0, .int .u32 0, .slice none 0 0]) := Fr.setRow (S := fun k => k = w.heap.size) (Fr.refl _ _) rfl _
  have hb := HM.out.hb
  have hR := HM.out.rx.fr F3 (by omega)
  have hF : Fr (fun k => k = b) w (v3.setRow w.heap.size #[.int .i64 6, .int .u16 y1, .int .u16 0, .int .u8 0, .int .i8 0, .int .i8 0, .int .i64 0, .int .u16 0, .int .i64 0, .int .i64 0, .int .i64 0, .int .i64 0, .int .i64 0, .int .i64 0, .int .i64 y2x, .int .i64 y2y, .int .i64 y2z, .int .i64 y3x, .int .i64 y3y, .int .i64 y3z, .int .u32 0, .int .u32 0, .slice none 0 0]) := ⟨F3.os.trans HM.out.fr.os, F3.tape.trans HM.out.fr.tape, F3.output.trans HM.out.fr.output, Nat.le_trans HM.out.fr.size F3.size, fun k hk hS => (F3.block k (Nat.lt_of_lt_of_le hk HM.out.fr.size) (by omega)).trans (HM.out.fr.block k hk hS)⟩
  refine bodyPost_ret (v := .agg #[.int .i64 6, .int .u16 y1, .int .u16 0, .int .u8 0, .int .i8 0, .int .i8 0, .int .i64 0, .int .u16 0, .int .i64 0, .int .i64 0, .int .i64 0, .int .i64 0, .int .i64 0, .int .i64 0, .int .i64 y2x, .int .i64 y2y, .int .i64 y2z, .int .i64 y3x, .int .i64 y3y, .int .i64 y3z, .int .u32 0, .int .u32 0, .slice none 0 0]) ?hres ?hdef ?_
  case hres => exact results_cell_row rfl _ _ w.heap.size 40 #[.int .i64 6, .int .u16 y1, .int .u16 0, .int .u8 0, .int .i8 0, .int .i8 0, .int .i64 0, .int .u16 0, .int .i64 0, .int .i64 0, .int .i64 0, .int .i64 0, .int .i64 0, .int .i64 0, .int .i64 y2x, .int .i64 y2y, .int .i64 y2z, .int .i64 y3x, .int .i64 y3y, .int .i64 y3z, .int .u32 0, .int .u32 0, .slice none 0 0] (0, 0) _ rfl E.obj Try.underlying40 rfl size_msg
  case hdef => rfl

  refine ⟨{ bare 6 with seq := y1, pos := ⟨y2x, y2y, y2z⟩, vel := ⟨y3x, y3y, y3z⟩ }, .slice none 0 0, rfl, MX.of HRUN.out ?_ (by constructor <;> simp [bare, c0, v0] <;> omega) (by simp [bare]) (Row.nil _ _) hR hF⟩
  rw [fields6]
  refine ⟨by simp only [true_and, HE1.out, HE2.out, HE3.out], fun h0 => ?_⟩
  have z3 := h0
  have z2 : t2.2 = 0 := vec_zero (by rw [HE3.out]; exact z3)
  have z1 : t1.2 = 0 := vec_zero (by rw [HE2.out]; exact z2)
  have z0 : t0.2 = 0 := rdS_zero (by rw [HE1.out]; exact z1)
  have x1 := HV1.out z1
  have x2 := HV2.out z2
  have x3 := HV3.out z3
  simp only [true_and, HE1.out, x1, HE2.out, x2, HE3.out, x3]
open Go.RowKit Go.Shelf
set_option linter.unusedVariables false
set_option linter.unusedSimpArgs false
attribute [local go_sem ↓] Go.wp_at_zero Go.wp_at_succ
set_option maxRecDepth 100000 in
set_option maxHeartbeats 4000000 in
theorem messageX7 {w : World} {b : Nat} {l : List Bool} (h : RX w b (l, 0)) (hk : Pg.rdx false (tkv (l, 0) 4) = 7) :
    Calls Try.prog 38 #[.pointer (some ⟨b, 0, none⟩)] w fun e w' => MXP w b (l, 0) e w' := by
  have hst := kind_ok h hk (by omega) (by omega)
  obtain ⟨t0, ht0⟩ : ∃ q, (Pg.rdS false (l, 0) 0 rKind).2 = q := ⟨_, rfl⟩
  rw [ht0] at hst
  obtain ⟨hn4, hrun⟩ := hst
  have HRUN := hid hrun; have HT0 := hid ht0
  have hM := RM.start 40 zMsg h
  have HM := hid hM
  have hz : (w.alloc (.cells zMsg 40)).heap.size = w.heap.size + 1 := by simp
  clear hM h hrun ht0 hk
  go_enter Try.func38, Try.ntmps38
  go_wp2_with (refine wpList_store_row rfl 40 _ _ rfl (w.heap.size + 1) zMsg rfl rfl 40 zMsg (by rw [← hz]; exact heap_alloc_new _ _) size_msg rfl one23 ?_; rw [← hz, World.setRow_alloc_new, hz]; generalize (w.alloc (.cells zMsg 40)).alloc (.cells zMsg 40) = u0 at *)
  clear hz
  refine (HM.out.call (t2 := tk (l, 0) 4) hn4).mono ?_; rintro e wk ⟨rfl, hM⟩
  have tc := hM.bx.cell (i := 0) rfl
  have fc := hM.bx.thaw 0
  have hM2 := hM.set 0 (.int .i64 7)
  simp only [List.setIfInBounds_toArray, List.set_cons_zero, List.set_cons_succ] at hM2
  have pc := hM2.bx.cell (i := 0) rfl
  have HM2 := hid hM2
  clear hM hM2 HM hn4
  go_wp2_with fail
  clear tc fc pc
  refine (HM2.out.call (fun h => mustX h true)).mono ?_; rintro e wm ⟨rfl, hM⟩
  rw [mst_true] at hM
  have hM := hM.sub (HRUN.out.st)
  have HM := hid hM
  have pc := hM.bx.cell (i := 0) rfl
  clear hM HM2

  go_wp2_with fail
  clear pc
  refine (HM.out.num 16 (by omega)).mono ?_; rintro e w1 ⟨y1, t1, rfl, he, hv, hr, hM⟩
  have hr1 : 0 ≤ y1 ∧ y1 ≤ 65535 := ⟨hr.1, by have := hr.2; omega⟩
  have qw : IntKind.u16.wrap y1 = y1 := wrapU_u16 hr1.1 (by omega)
  clear hr
  have HE1 := hid he; have HV1 := hid hv
  have tc := hM.bx.cell (i := 7) rfl
  have fc := hM.bx.thaw 7
  have hM2 := hM.set 7 (.int .u16 y1)
  simp only [List.setIfInBounds_toArray, List.set_cons_zero, List.set_cons_succ] at hM2
  clear HM hM he hv
  have HM := hid hM2
  clear hM2
  go_wp2_with fail
  clear tc fc qw
  generalize (w1.setCell ⟨w.heap.size + 1, 7, none⟩ (.int .u16 y1)) = v1 at *
  refine (HM.out.id).mono ?_; rintro e w2 ⟨y2, t2, rfl, he, hv, hM⟩
  have HE2 := hid he; have HV2 := hid hv
  have tc := hM.bx.cell (i := 8) rfl
  have fc := hM.bx.thaw 8
  have hM2 := hM.set 8 (.int .i64 y2)
  simp only [List.setIfInBounds_toArray, List.set_cons_zero, List.set_cons_succ] at hM2
  clear HM hM he hv
  have HM := hid hM2
  clear hM2
  go_upto_region 38 with fail
  clear tc fc
  generalize (w2.setCell ⟨w.heap.size + 1, 8, none⟩ (.int .i64 y2)) = v2 at *
  go_step
  refine wpList_load_row rfl 40 _ rfl (w.heap.size + 1) rfl 40 #[.int .i64 7, .int .u16 0, .int .u16 0, .int .u8 0, .int .i8 0, .int .i8 0, .int .i64 0, .int .u16 y1, .int .i64 y2, .int .i64 0, .int .i64 0, .int .i64 0, .int .i64 0, .int .i64 0, .int .i64 0, .int .i64 0, .int .i64 0, .int .i64 0, .int .i64 0, .int .i64 0, .int .u32 0, .int .u32 0, .slice none 0 0] (0, 0) _ HM.out.bx.obj Try.underlying40 rfl size_msg ?_
  refine wpList_store_row rfl 40 _ _ rfl w.heap.size #[.int .i64 7, .int .u16 0, .int .u16 0, .int .u8 0, .int .i8 0, .int .i8 0, .int .i64 0, .int .u16 y1, .int .i64 y2, .int .i64 0, .int .i64 0, .int .i64 0, .int .i64 0, .int .i64 0, .int .i64 0, .int .i64 0, .int .i64 0, .int .i64 0, .int .i64 0, .int .i64 0, .int .u32 0, .int .u32 0, .slice none 0 0] rfl rfl 40 zMsg HM.out.ax.obj size_msg rfl one23 ?_
  go_wp2_with fail
  have E := HM.out.ax.setRow #[.int .i64 7, .int .u16 0, .int .u16 0, .int .u8 0, .int .i8 0, .int .i8 0, .int .i64 0, .int .u16 y1, .int .i64 y2, .int .i64 0, .int .i64 0, .int .i64 0, .int .i64 0, .int .i64 0, .int .i64 0, .int .i64 0, .int .i64 0, .int .i64 0, .int .i64 0, .int .i64 0, .int .u32 0, .int .u32 0, .slice none 0 0]
  have F3 : Fr (fun k => k = w.heap.size) v2 (v2.setRow w.heap.size #[.int .i64 7, .int .u16 0, .int .u16 0, .int .u8 0, .int .i8 0, .int .i8 0, .int .i64 0, .int .u16 y1, .int .i64 y2, .int .i64 0, .int .i64 0, .int .i64 0, .int .i64 0, .int .i64 0, .int .i64 0, .int .i64 0, .int .i64 0, .int .i64 0, .int .i64 0, .int .i64 0, .int .u32 0, .int .u32 0, .slice none 0 0]) := Fr.setRow (S := fun k => k = w.heap.size) (Fr.refl _ _) rfl _
  have hb := HM.out.hb
  have hR := HM.out.rx.fr F3 (by omega)
  have hF : Fr (fun k => k = b) w (v2.setRow w.heap.size #[.int .i64 7, .int .u16 0, .int .u16 0, .int .u8 0, .int .i8 0, .int .i8 0, .int .i64 0, .int .u16 y1, .int .i64 y2, .int .i64 0, .int .i64 0, .int .i64 0, .int .i64 0, .int .i64 0, .int .i64 0, .int .i64 0, .int .i64 0, .int .i64 0, .int .i64 0, .int .i64 0, .int .u32 0, .int .u32 0, .slice none 0 0]) := ⟨F3.os.trans HM.out.fr.os, F3.tape.trans HM.out.fr.tape, F3.output.trans HM.out.fr.output, Nat.le_trans HM.out.fr.size F3.size, fun k hk hS => (F3.block k (Nat.lt_of_lt_of_le hk HM.out.fr.size) (by omega)).trans (HM.out.fr.block k hk hS)⟩
  refine bodyPost_ret (v := .agg #[.int .i64 7, .int .u16 0, .int .u16 0, .int .u8 0, .int .i8 0, .int .i8 0, .int .i64 0, .int .u16 y1, .int .i64 y2, .int .i64 0, .int .i64 0, .int .i64 0, .int .i64 0, .int .i64 0, .int .i64 0, .int .i64 0, .int .i64 0, .int .i64 0, .int .i64 0, .int .i64 0, .int .u32 0, .int .u32 0, .slice none 0 0]) ?hres ?hdef ?_
  case hres => exact results_cell_row rfl _ _ w.heap.size 40 #[.int .i64 7, .int .u16 0, .int .u16 0, .int .u8 0, .int .i8 0, .int .i8 0, .int .i64 0, .int .u16 y1, .int .i64 y2, .int .i64 0, .int .i64 0, .int .i64 0, .int .i64 0, .int .i64 0, .int .i64 0, .int .i64 0, .int .i64 0, .int .i64 0, .int .i64 0, .int .i64 0, .int .u32 0, .int .u32 0, .slice none 0 0] (0, 0) _ rfl E.obj Try.underlying40 rfl size_msg
  case hdef => rfl

  refine ⟨{ bare 7 with prov := y1, id := y2 }, .slice none 0 0, rfl, MX.of HRUN.out ?_ (by constructor <;> simp [bare, c0, v0] <;> omega) (by simp [bare]) (Row.nil _ _) hR hF⟩
  rw [fields7]
  refine ⟨by simp only [true_and, HE1.out, HE2.out], fun h0 => ?_⟩
  have z2 := h0
  have z1 : t1.2 = 0 := rdS_zero (by rw [HE2.out]; exact z2)
  have z0 : t0.2 = 0 := rdS_zero (by rw [HE1.out]; exact z1)
  have x1 := HV1.out z1
  have x2 := HV2.out z2
  simp only [true_and, HE1.out, x1, HE2.out, x2]
open Go.RowKit Go.Shelf
set_option linter.unusedVariables false
set_option linter.unusedSimpArgs false
attribute [local go_sem ↓] Go.wp_at_zero Go.wp_at_succ
set_option maxRecDepth 100000 in
set_option maxHeartbeats 4000000 in
theorem messageX8 {w : World} {b : Nat} {l : List Bool} (h : RX w b (l, 0)) (hk : Pg.rdx false (tkv (l, 0) 4) = 8) :
    Calls Try.prog 38 #[.pointer (some ⟨b, 0, none⟩)] w fun e w' => MXP w b (l, 0) e w' := by
  have hst := kind_ok h hk (by omega) (by omega)
  obtain ⟨t0, ht0⟩ : ∃ q, (Pg.rdS false (l, 0) 0 rKind).2 = q := ⟨_, rfl⟩
  rw [ht0] at hst
  obtain ⟨hn4, hrun⟩ := hst
  have HRUN := hid hrun; have HT0 := hid ht0
  have hM := RM.start 40 zMsg h
  have HM := hid hM
  have hz : (w.alloc (.cells zMsg 40)).heap.size = w.heap.size + 1 := by simp
  clear hM h hrun ht0 hk
  go_enter Try.func38, Try.ntmps38
  go_wp2_with (refine wpList_store_row rfl 40 _ _ rfl (w.heap.size + 1) zMsg rfl rfl 40 zMsg (by rw [← hz]; exact heap_alloc_new _ _) size_msg rfl one23 ?_; rw [← hz, World.setRow_alloc_new, hz]; generalize (w.alloc (.cells zMsg 40)).alloc (.cells zMsg 40) = u0 at *)
  clear hz
  refine (HM.out.call (t2 := tk (l, 0) 4) hn4).mono ?_; rintro e wk ⟨rfl, hM⟩
  have tc := hM.bx.cell (i := 0) rfl
  have fc := hM.bx.thaw 0
  have hM2 := hM.set 0 (.int .i64 8)
  simp only [List.setIfInBounds_toArray, List.set_cons_zero, List.set_cons_succ] at hM2
  have pc := hM2.bx.cell (i := 0) rfl
  have HM2 := hid hM2
  clear hM hM2 HM hn4
  go_wp2_with fail
  clear tc fc pc
  refine (HM2.out.call (fun h => mustX h true)).mono ?_; rintro e wm ⟨rfl, hM⟩
  rw [mst_true] at hM
  have hM := hM.sub (HRUN.out.st)
  have HM := hid hM
  have pc := hM.bx.cell (i := 0) rfl
  clear hM HM2

  go_wp2_with fail
  clear pc
  refine (HM.out.num 16 (by omega)).mono ?_; rintro e w1 ⟨y1, t1, rfl, he, hv, hr, hM⟩
  have hr1 : 0 ≤ y1 ∧ y1 ≤ 65535 := ⟨hr.1, by have := hr.2; omega⟩
  have qw : IntKind.u16.wrap y1 = y1 := wrapU_u16 hr1.1 (by omega)
  clear hr
  have HE1 := hid he; have HV1 := hid hv
  have tc := hM.bx.cell (i := 7) rfl
  have fc := hM.bx.thaw 7
  have hM2 := hM.set 7 (.int .u16 y1)
  simp only [List.setIfInBounds_toArray, List.set_cons_zero, List.set_cons_succ] at hM2
  clear HM hM he hv
  have HM := hid hM2
  clear hM2
  go_wp2_with fail
  clear tc fc qw
  generalize (w1.setCell ⟨w.heap.size + 1, 7, none⟩ (.int .u16 y1)) = v1 at *
  refine (HM.out.call (fun h => numberX h 4 (by omega))).mono ?_; rintro e w2 ⟨rfl, hM⟩
  have hk : mst (tk t1 4) (decide (rWhy.has (Pg.rdx false (tkv t1 4)))) = (Pg.rdS false t1 0 rWhy).2 ∧ ((Pg.rdS false t1 0 rWhy).2.2 = 0 → Pg.rdx false (tkv t1 4) = (Pg.rdS false t1 0 rWhy).1) := ask_is false t1 0 rWhy
  obtain ⟨y2, hy⟩ : ∃ y, Pg.rdx false (tkv t1 4) = y := ⟨_, rfl⟩
  obtain ⟨t2, hs⟩ : ∃ q, (Pg.rdS false t1 0 rWhy).2 = q := ⟨_, rfl⟩
  rw [hy, hs] at hk
  rw [hy]
  have HE2 := hid hs; have HV2 := hid hk.2; have HK := hid hk.1
  clear HM
  have HM2 := hid hM
  clear hM hy hs hk
  rcases (show (1 ≤ y2 ∧ y2 ≤ 10) ∨ y2 < 1 ∨ 10 < y2 by omega) with hc | hc | hc
  ·
    have hd : decide (rWhy.has y2) = true := decide_eq_true ⟨hc.1, hc.2⟩
    have p1 : 1 ≤ y2 := hc.1; have p2 : y2 ≤ 10 := hc.2
    have hk2 := HK.out
    rw [hd] at hk2
    go_wp2_with fail
    refine (HM2.out.call (fun h => mustX h _)).mono ?_; rintro e w3 ⟨rfl, hM⟩
    skip
    rw [hk2] at hM
    have tc := hM.bx.cell (i := 13) rfl
    have fc := hM.bx.thaw 13
    have hM2 := hM.set 13 (.int .i64 y2)
    simp only [List.setIfInBounds_toArray, List.set_cons_zero, List.set_cons_succ] at hM2
    clear HM2 hM
    have HM := hid hM2
    clear hM2
    go_upto_region 38 with fail
    clear tc fc
    generalize (w3.setCell ⟨w.heap.size + 1, 13, none⟩ (.int .i64 y2)) = v2 at *
    go_step
    refine wpList_load_row rfl 40 _ rfl (w.heap.size + 1) rfl 40 #[.int .i64 8, .int .u16 0, .int .u16 0, .int .u8 0, .int .i8 0, .int .i8 0, .int .i64 0, .int .u16 y1, .int .i64 0, .int .i64 0, .int .i64 0, .int .i64 0, .int .i64 0, .int .i64 y2, .int .i64 0, .int .i64 0, .int .i64 0, .int .i64 0, .int .i64 0, .int .i64 0, .int .u32 0, .int .u32 0, .slice none 0 0] (0, 0) _ HM.out.bx.obj Try.underlying40 rfl size_msg ?_
    refine wpList_store_row rfl 40 _ _ rfl w.heap.size #[.int .i64 8, .int .u16 0, .int .u16 0, .int .u8 0, .int .i8 0, .int .i8 0, .int .i64 0, .int .u16 y1, .int .i64 0, .int .i64 0, .int .i64 0, .int .i64 0, .int .i64 0, .int .i64 y2, .int .i64 0, .int .i64 0, .int .i64 0, .int .i64 0, .int .i64 0, .int .i64 0, .int .u32 0, .int .u32 0, .slice none 0 0] rfl rfl 40 zMsg HM.out.ax.obj size_msg rfl one23 ?_
    go_wp2_with fail
    have E := HM.out.ax.setRow #[.int .i64 8, .int .u16 0, .int .u16 0, .int .u8 0, .int .i8 0, .int .i8 0, .int .i64 0, .int .u16 y1, .int .i64 0, .int .i64 0, .int .i64 0, .int .i64 0, .int .i64 0, .int .i64 y2, .int .i64 0, .int .i64 0, .int .i64 0, .int .i64 0, .int .i64 0, .int .i64 0, .int .u32 0, .int .u32 0, .slice none 0 0]
    have F3 : Fr (fun k => k = w.heap.size) v2 (v2.setRow w.heap.size #[.int .i64 8, .int .u16 0, .int .u16 0, .int .u8 0, .int .i8 0, .int .i8 0, .int .i64 0, .int .u16 y1, .int .i64 0, .int .i64 0, .int .i64 0, .int .i64 0, .int .i64 0, .int .i64 y2, .int .i64 0, .int .i64 0, .int .i64 0, .int .i64 0, .int .i64 0, .int .i64 0, .int .u32 0, .int .u32 0, .slice none 0 0]) := Fr.setRow (S := fun k => k = w.heap.size) (Fr.refl _ _) rfl _
    have hb := HM.out.hb
    have hR := HM.out.rx.fr F3 (by omega)
    have hF : Fr (fun k => k = b) w (v2.setRow w.heap.size #[.int .i64 8, .int .u16 0, .int .u16 0, .int .u8 0, .int .i8 0, .int .i8 0, .int .i64 0, .int .u16 y1, .int .i64 0, .int .i64 0, .int .i64 0, .int .i64 0, .int .i64 0, .int .i64 y2, .int .i64 0, .int .i64 0, .int .i64 0, .int .i64 0, .int .i64 0, .int .i64 0, .int .u32 0, .int .u32 0, .slice none 0 0]) := ⟨F3.os.trans HM.out.fr.os, F3.tape.trans HM.out.fr.tape, F3.output.trans HM.out.fr.output, Nat.le_trans HM.out.fr.size F3.size, fun k hk hS => (F3.block k (Nat.lt_of_lt_of_le hk HM.out.fr.size) (by omega)).trans (HM.out.fr.block k hk hS)⟩
    refine bodyPost_ret (v := .agg #[.int .i64 8, .int .u16 0, .int .u16 0, .int .u8 0, .int .i8 0, .int .i8 0, .int .i64 0, .int .u16 y1, .int .i64 0, .int .i64 0, .int .i64 0, .int .i64 0, .int .i64 0, .int .i64 y2, .int .i64 0, .int .i64 0, .int .i64 0, .int .i64 0, .int .i64 0, .int .i64 0, .int .u32 0, .int .u32 0, .slice none 0 0]) ?hres ?hdef ?_
    case hres => exact results_cell_row rfl _ _ w.heap.size 40 #[.int .i64 8, .int .u16 0, .int .u16 0, .int .u8 0, .int .i8 0, .int .i8 0, .int .i64 0, .int .u16 y1, .int .i64 0, .int .i64 0, .int .i64 0, .int .i64 0, .int .i64 0, .int .i64 y2, .int .i64 0, .int .i64 0, .int .i64 0, .int .i64 0, .int .i64 0, .int .i64 0, .int .u32 0, .int .u32 0, .slice none 0 0] (0, 0) _ rfl E.obj Try.underlying40 rfl size_msg
    case hdef => rfl
    refine ⟨{ bare 8 with prov := y1, why := y2 }, .slice none 0 0, rfl, MX.of HRUN.out ?_ (by constructor <;> simp [bare, c0, v0] <;> omega) (by simp [bare]) (Row.nil _ _) hR hF⟩
    rw [fields8]
    refine ⟨by simp only [true_and, HE1.out, HE2.out], fun h0 => ?_⟩
    have z2 := h0
    have z1 : t1.2 = 0 := rdS_zero (by rw [HE2.out]; exact z2)
    have x1 := HV1.out z1; have x2 := HV2.out z2
    simp only [true_and, HE1.out, x1, HE2.out, ← x2]
  ·
    have hd : decide (rWhy.has y2) = false := decide_eq_false (fun e => by have h1 : 1 ≤ y2 := e.1; omega)
    have p1 : ¬ 1 ≤ y2 := by omega
    have hk2 := HK.out
    rw [hd] at hk2
    go_wp2_with fail
    refine (HM2.out.call (fun h => mustX h _)).mono ?_; rintro e w3 ⟨rfl, hM⟩
    try rw [decide_eq_false (show ¬ 1 ≤ y2 by omega)] at hM
    rw [hk2] at hM
    have tc := hM.bx.cell (i := 13) rfl
    have fc := hM.bx.thaw 13
    have hM2 := hM.set 13 (.int .i64 y2)
    simp only [List.setIfInBounds_toArray, List.set_cons_zero, List.set_cons_succ] at hM2
    clear HM2 hM
    have HM := hid hM2
    clear hM2
    go_upto_region 38 with fail
    clear tc fc
    generalize (w3.setCell ⟨w.heap.size + 1, 13, none⟩ (.int .i64 y2)) = v2 at *
    go_step
    refine wpList_load_row rfl 40 _ rfl (w.heap.size + 1) rfl 40 #[.int .i64 8, .int .u16 0, .int .u16 0, .int .u8 0, .int .i8 0, .int .i8 0, .int .i64 0, .int .u16 y1, .int .i64 0, .int .i64 0, .int .i64 0, .int .i64 0, .int .i64 0, .int .i64 y2, .int .i64 0, .int .i64 0, .int .i64 0, .int .i64 0, .int .i64 0, .int .i64 0, .int .u32 0, .int .u32 0, .slice none 0 0] (0, 0) _ HM.out.bx.obj Try.underlying40 rfl size_msg ?_
    refine wpList_store_row rfl 40 _ _ rfl w.heap.size #[.int .i64 8, .int .u16 0, .int .u16 0, .int .u8 0, .int .i8 0, .int .i8 0, .int .i64 0, .int .u16 y1, .int .i64 0, .int .i64 0, .int .i64 0, .int .i64 0, .int .i64 0, .int .i64 y2, .int .i64 0, .int .i64 0, .int .i64 0, .int .i64 0, .int .i64 0, .int .i64 0, .int .u32 0, .int .u32 0, .slice none 0 0] rfl rfl 40 zMsg HM.out.ax.obj size_msg rfl one23 ?_
    go_wp2_with fail
    have E := HM.out.ax.setRow #[.int .i64 8, .int .u16 0, .int .u16 0, .int .u8 0, .int .i8 0, .int .i8 0, .int .i64 0, .int .u16 y1, .int .i64 0, .int .i64 0, .int .i64 0, .int .i64 0, .int .i64 0, .int .i64 y2, .int .i64 0, .int .i64 0, .int .i64 0, .int .i64 0, .int .i64 0, .int .i64 0, .int .u32 0, .int .u32 0, .slice none 0 0]
    have F3 : Fr (fun k => k = w.heap.size) v2 (v2.setRow w.heap.size #[.int .i64 8, .int .u16 0, .int .u16 0, .int .u8 0, .int .i8 0, .int .i8 0, .int .i64 0, .int .u16 y1, .int .i64 0, .int .i64 0, .int .i64 0, .int .i64 0, .int .i64 0, .int .i64 y2, .int .i64 0, .int .i64 0, .int .i64 0, .int .i64 0, .int .i64 0, .int .i64 0, .int .u32 0, .int .u32 0, .slice none 0 0]) := Fr.setRow (S := fun k => k = w.heap.size) (Fr.refl _ _) rfl _
    have hb := HM.out.hb
    have hR := HM.out.rx.fr F3 (by omega)
    have hF : Fr (fun k => k = b) w (v2.setRow w.heap.size #[.int .i64 8, .int .u16 0, .int .u16 0, .int .u8 0, .int .i8 0, .int .i8 0, .int .i64 0, .int .u16 y1, .int .i64 0, .int .i64 0, .int .i64 0, .int .i64 0, .int .i64 0, .int .i64 y2, .int .i64 0, .int .i64 0, .int .i64 0, .int .i64 0, .int .i64 0, .int .i64 0, .int .u32 0, .int .u32 0, .slice none 0 0]) := ⟨F3.os.trans HM.out.fr.os, F3.tape.trans HM.out.fr.tape, F3.output.trans HM.out.fr.output, Nat.le_trans HM.out.fr.size F3.size, fun k hk hS => (F3.block k (Nat.lt_of_lt_of_le hk HM.out.fr.size) (by omega)).trans (HM.out.fr.block k hk hS)⟩
    refine bodyPost_ret (v := .agg #[.int .i64 8, .int .u16 0, .int .u16 0, .int .u8 0, .int .i8 0, .int .i8 0, .int .i64 0, .int .u16 y1, .int .i64 0, .int .i64 0, .int .i64 0, .int .i64 0, .int .i64 0, .int .i64 y2, .int .i64 0, .int .i64 0, .int .i64 0, .int .i64 0, .int .i64 0, .int .i64 0, .int .u32 0, .int .u32 0, .slice none 0 0]) ?hres ?hdef ?_
    case hres => exact results_cell_row rfl _ _ w.heap.size 40 #[.int .i64 8, .int .u16 0, .int .u16 0, .int .u8 0, .int .i8 0, .int .i8 0, .int .i64 0, .int .u16 y1, .int .i64 0, .int .i64 0, .int .i64 0, .int .i64 0, .int .i64 0, .int .i64 y2, .int .i64 0, .int .i64 0, .int .i64 0, .int .i64 0, .int .i64 0, .int .i64 0, .int .u32 0, .int .u32 0, .slice none 0 0] (0, 0) _ rfl E.obj Try.underlying40 rfl size_msg
    case hdef => rfl
    refine ⟨{ bare 8 with prov := y1, why := y2 }, .slice none 0 0, rfl, MX.of HRUN.out ?_ (by constructor <;> simp [bare, c0, v0] <;> omega) (by simp [bare]) (Row.nil _ _) hR hF⟩
    rw [fields8]
    refine ⟨by simp only [true_and, HE1.out, HE2.out], fun h0 => ?_⟩
    have z2 := h0
    have z1 : t1.2 = 0 := rdS_zero (by rw [HE2.out]; exact z2)
    have x1 := HV1.out z1; have x2 := HV2.out z2
    simp only [true_and, HE1.out, x1, HE2.out, ← x2]
  ·
    have hd : decide (rWhy.has y2) = false := decide_eq_false (fun e => by have h1 : y2 ≤ 10 := e.2; omega)
    have p1 : 1 ≤ y2 := by omega
    have p2 : ¬ y2 ≤ 10 := by omega
    have hk2 := HK.out
    rw [hd] at hk2
    go_wp2_with fail
    refine (HM2.out.call (fun h => mustX h _)).mono ?_; rintro e w3 ⟨rfl, hM⟩
    try rw [decide_eq_false (show ¬ y2 ≤ 10 by omega)] at hM
    rw [hk2] at hM
    have tc := hM.bx.cell (i := 13) rfl
    have fc := hM.bx.thaw 13
    have hM2 := hM.set 13 (.int .i64 y2)
    simp only [List.setIfInBounds_toArray, List.set_cons_zero, List.set_cons_succ] at hM2
    clear HM2 hM
    have HM := hid hM2
    clear hM2
    go_upto_region 38 with fail
    clear tc fc
    generalize (w3.setCell ⟨w.heap.size + 1, 13, none⟩ (.int .i64 y2)) = v2 at *
    go_step
    refine wpList_load_row rfl 40 _ rfl (w.heap.size + 1) rfl 40 #[.int .i64 8, .int .u16 0, .int .u16 0, .int .u8 0, .int .i8 0, .int .i8 0, .int .i64 0, .int .u16 y1, .int .i64 0, .int .i64 0, .int .i64 0, .int .i64 0, .int .i64 0, .int .i64 y2, .int .i64 0, .int .i64 0, .int .i64 0, .int .i64 0, .int .i64 0, .int .i64 0, .int .u32 0, .int .u32 0, .slice none 0 0] (0, 0) _ HM.out.bx.obj Try.underlying40 rfl size_msg ?_
    refine wpList_store_row rfl 40 _ _ rfl w.heap.size #[.int .i64 8, .int .u16 0, .int .u16 0, .int .u8 0, .int .i8 0, .int .i8 0, .int .i64 0, .int .u16 y1, .int .i64 0, .int .i64 0, .int .i64 0, .int .i64 0, .int .i64 0, .int .i64 y2, .int .i64 0, .int .i64 0, .int .i64 0, .int .i64 0, .int .i64 0, .int .i64 0, .int .u32 0, .int .u32 0, .slice none 0 0] rfl rfl 40 zMsg HM.out.ax.obj size_msg rfl one23 ?_
    go_wp2_with fail
    have E := HM.out.ax.setRow #[.int .i64 8, .int .u16 0, .int .u16 0, .int .u8 0, .int .i8 0, .int .i8 0, .int .i64 0, .int .u16 y1, .int .i64 0, .int .i64 0, .int .i64 0, .int .i64 0, .int .i64 0, .int .i64 y2, .int .i64 0, .int .i64 0, .int .i64 0, .int .i64 0, .int .i64 0, .int .i64 0, .int .u32 0, .int .u32 0, .slice none 0 0]
    have F3 : Fr (fun k => k = w.heap.size) v2 (v2.setRow w.heap.size #[.int .i64 8, .int .u16 0, .int .u16 0, .int .u8 0, .int .i8 0, .int .i8 0, .int .i64 0, .int .u16 y1, .int .i64 0, .int .i64 0, .int .i64 0, .int .i64 0, .int .i64 0, .int .i64 y2, .int .i64 0, .int .i64 0, .int .i64 0, .int .i64 0, .int .i64 0, .int .i64 0, .int .u32 0, .int .u32 0, .slice none 0 0]) := Fr.setRow (S := fun k => k = w.heap.size) (Fr.refl _ _) rfl _
    have hb := HM.out.hb
    have hR := HM.out.rx.fr F3 (by omega)
    have hF : Fr (fun k => k = b) w (v2.setRow w.heap.size #[.int .i64 8, .int .u16 0, .int .u16 0, .int .u8 0, .int .i8 0, .int .i8 0, .int .i64 0, .int .u16 y1, .int .i64 0, .int .i64 0, .int .i64 0, .int .i64 0, .int .i64 0, .int .i64 y2, .int .i64 0, .int .i64 0, .int .i64 0, .int .i64 0, .int .i64 0, .int .i64 0, .int .u32 0, .int .u32 0, .slice none 0 0]) := ⟨F3.os.trans HM.out.fr.os, F3.tape.trans HM.out.fr.tape, F3.output.trans HM.out.fr.output, Nat.le_trans HM.out.fr.size F3.size, fun k hk hS => (F3.block k (Nat.lt_of_lt_of_le hk HM.out.fr.size) (by omega)).trans (HM.out.fr.block k hk hS)⟩
    refine bodyPost_ret (v := .agg #[.int .i64 8, .int .u16 0, .int .u16 0, .int .u8 0, .int .i8 0, .int .i8 0, .int .i64 0, .int .u16 y1, .int .i64 0, .int .i64 0, .int .i64 0, .int .i64 0, .int .i64 0, .int .i64 y2, .int .i64 0, .int .i64 0, .int .i64 0, .int .i64 0, .int .i64 0, .int .i64 0, .int .u32 0, .int .u32 0, .slice none 0 0]) ?hres ?hdef ?_
    case hres => exact results_cell_row rfl _ _ w.heap.size 40 #[.int .i64 8, .int .u16 0, .int .u16 0, .int .u8 0, .int .i8 0, .int .i8 0, .int .i64 0, .int .u16 y1, .int .i64 0, .int .i64 0, .int .i64 0, .int .i64 0, .int .i64 0, .int .i64 y2, .int .i64 0, .int .i64 0, .int .i64 0, .int .i64 0, .int .i64 0, .int .i64 0, .int .u32 0, .int .u32 0, .slice none 0 0] (0, 0) _ rfl E.obj Try.underlying40 rfl size_msg
    case hdef => rfl
    refine ⟨{ bare 8 with prov := y1, why := y2 }, .slice none 0 0, rfl, MX.of HRUN.out ?_ (by constructor <;> simp [bare, c0, v0] <;> omega) (by simp [bare]) (Row.nil _ _) hR hF⟩
    rw [fields8]
    refine ⟨by simp only [true_and, HE1.out, HE2.out], fun h0 => ?_⟩
    have z2 := h0
    have z1 : t1.2 = 0 := rdS_zero (by rw [HE2.out]; exact z2)
    have x1 := HV1.out z1; have x2 := HV2.out z2
    simp only [true_and, HE1.out, x1, HE2.out, ← x2]
end Go.Proofs.Ytneaanmchachlaa
