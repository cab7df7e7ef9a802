/- Layer 5 (message): the bits of a right message: the document's. -/
import Derived.Test.YtkmiogaklmgnkaaOvA
import Derived.Test.YtkmiogaklmgnkaaMsQ
import Derived.Test.YtkmiogaklmgnkaaBtU
import Derived.Test.YtkmiogaklmgnkaaMsI2
import Derived.Test.YtkmiogaklmgnkaaMsJ
import Derived.Test.YtkmiogaklmgnkaaMtA
import Derived.Test.YtkmiogaklmgnkaaMsW
import Derived.Test.YtkmiogaklmgnkaaMsY
namespace Go.Proofs.Ytkmiogaklmgnkaa
open Go.RowKit Go.Shelf
set_option linter.unusedVariables false
set_option linter.unusedSimpArgs false
attribute [local go_sem ↓] Go.wp_at_zero Go.wp_at_succ
set_option maxRecDepth 100000 in
set_option maxHeartbeats 4000000 in
theorem bits_0 (m : Msg) (p : Option Addr) (cap : Nat) (w : World) (k2 : m.kind ≠ 2) (k3 : m.kind ≠ 3) (k5 : m.kind ≠ 5) (k6 : m.kind ≠ 6) (k7 : m.kind ≠ 7) (k8 : m.kind ≠ 8) (k9 : m.kind ≠ 9) (hm : MOk m) (hlen : m.bytes.length ≤ 1023) (ha : Arg w p m.bytes.length cap fun i => .int .u8 ((m.bytes.getD i 0 : Nat) : Int)) :
    Calls Try.prog 53 #[.agg (msgC m (.slice p m.bytes.length cap))] w fun e w' => e = .returned (.string (txt (carr m).enc)) ∧ Below w.heap.size w w' := by
  have hcm : msgC m (.slice p m.bytes.length cap) = #[.int .i64 m.kind, .int .u16 m.seq, .int .u16 m.cmd.seq, .int .u8 m.cmd.but, .int .i8 m.cmd.dx, .int .i8 m.cmd.dy, .int .i64 m.cmd.tk, .int .u16 m.prov, .int .i64 m.id, .int .i64 m.shot, .int .i64 m.dir.x, .int .i64 m.dir.y, .int .i64 m.dir.z, .int .i64 m.why, .int .i64 m.pos.x, .int .i64 m.pos.y, .int .i64 m.pos.z, .int .i64 m.vel.x, .int .i64 m.vel.y, .int .i64 m.vel.z, .int .u32 m.tick, .int .u32 m.base, .slice p m.bytes.length cap] := rfl
  rw [hcm, enc_0 k2 k3 k5 k6 k7 k8 k9]
  clear hcm
  have t0 := fun u => textL m.kind 4 4 rfl (by decide) u
  have tp := fun u => textL m.prov 16 16 rfl (by decide) u
  obtain ⟨XP, hXP⟩ : ∃ X, bitsK m.prov 16 = X := ⟨_, rfl⟩
  rw [hXP] at tp
  obtain ⟨X0, hX0⟩ : ∃ X, bitsK m.kind 4 = X := ⟨_, rfl⟩
  have l0 : X0.length ≤ 4 := by rw [← hX0, bitsK_length]; exact Nat.le_refl _
  rw [hX0] at t0
  rw [hX0]
  obtain ⟨a0, hA0⟩ : ∃ s, txt X0 = s := ⟨_, rfl⟩
  rw [hA0] at t0
  rw [hA0]
  clear hA0 hX0 l0 hXP
  have hb0 : Below w.heap.size w (w.alloc (.cells #[.int .i64 m.kind, .int .u16 m.seq, .int .u16 m.cmd.seq, .int .u8 m.cmd.but, .int .i8 m.cmd.dx, .int .i8 m.cmd.dy, .int .i64 m.cmd.tk, .int .u16 m.prov, .int .i64 m.id, .int .i64 m.shot, .int .i64 m.dir.x, .int .i64 m.dir.y, .int .i64 m.dir.z, .int .i64 m.why, .int .i64 m.pos.x, .int .i64 m.pos.y, .int .i64 m.pos.z, .int .i64 m.vel.x, .int .i64 m.vel.y, .int .i64 m.vel.z, .int .u32 m.tick, .int .u32 m.base, .slice p m.bytes.length cap] 40)) := (Below.refl _ _).alloc (Nat.le_refl _) _
  have A := Bq.new w 40 #[.int .i64 m.kind, .int .u16 m.seq, .int .u16 m.cmd.seq, .int .u8 m.cmd.but, .int .i8 m.cmd.dx, .int .i8 m.cmd.dy, .int .i64 m.cmd.tk, .int .u16 m.prov, .int .i64 m.id, .int .i64 m.shot, .int .i64 m.dir.x, .int .i64 m.dir.y, .int .i64 m.dir.z, .int .i64 m.why, .int .i64 m.pos.x, .int .i64 m.pos.y, .int .i64 m.pos.z, .int .i64 m.vel.x, .int .i64 m.vel.y, .int .i64 m.vel.z, .int .u32 m.tick, .int .u32 m.base, .slice p m.bytes.length cap]
  have HB0 := hid hb0
  have HA0 := hid A
  have q0 := A.cell (i := 0) rfl
  have e2 : (m.kind == 2) = false := beq_eq_false_iff_ne.2 k2
  have e3 : (m.kind == 3) = false := beq_eq_false_iff_ne.2 k3
  have e5 : (m.kind == 5) = false := beq_eq_false_iff_ne.2 k5
  have e6 : (m.kind == 6) = false := beq_eq_false_iff_ne.2 k6
  have e7 : (m.kind == 7) = false := beq_eq_false_iff_ne.2 k7
  have e8 : (m.kind == 8) = false := beq_eq_false_iff_ne.2 k8
  have e9 : (m.kind == 9) = false := beq_eq_false_iff_ne.2 k9
  clear hb0 A ha hm k2 k3 k5 k6 k7 k8 k9 hlen
  go_enter Try.func53, Try.ntmps53
  go_wp2_with fail
  refine (t0 _).mono ?_
  rintro e u1 ⟨rfl, hb1⟩
  dsimp only
  have HB1 := hid (btrans HB0.out hb1)
  have HA1 := hid (HA0.out.below hb1)
  have q7 := HA1.out.cell (i := 7) rfl
  clear q0 hb1 HB0 HA0 t0
  go_wp2_with fail
  refine (tp _).mono ?_
  rintro e u2 ⟨rfl, hb2⟩
  dsimp only
  have HB2 := hid (btrans HB1.out hb2)
  have HA2 := hid (HA1.out.below hb2)
  have q0 := HA2.out.cell (i := 0) rfl
  clear q7 hb2 HB1 HA1 tp
  go_wp2_with fail
  go_ret
  exact ⟨rfl, HB2.out⟩
open Go.RowKit Go.Shelf
set_option linter.unusedVariables false
set_option linter.unusedSimpArgs false
attribute [local go_sem ↓] Go.wp_at_zero Go.wp_at_succ
set_option maxRecDepth 100000 in
set_option maxHeartbeats 4000000 in
theorem bits_2 (m : Msg) (p : Option Addr) (cap : Nat) (w : World) (hk : m.kind = 2) (hm : MOk m) (hlen : m.bytes.length ≤ 1023) (ha : Arg w p m.bytes.length cap fun i => .int .u8 ((m.bytes.getD i 0 : Nat) : Int)) :
    Calls Try.prog 53 #[.agg (msgC m (.slice p m.bytes.length cap))] w fun e w' => e = .returned (.string (txt (carr m).enc)) ∧ Below w.heap.size w w' := by
  have hcm : msgC m (.slice p m.bytes.length cap) = #[.int .i64 2, .int .u16 m.seq, .int .u16 m.cmd.seq, .int .u8 m.cmd.but, .int .i8 m.cmd.dx, .int .i8 m.cmd.dy, .int .i64 m.cmd.tk, .int .u16 m.prov, .int .i64 m.id, .int .i64 m.shot, .int .i64 m.dir.x, .int .i64 m.dir.y, .int .i64 m.dir.z, .int .i64 m.why, .int .i64 m.pos.x, .int .i64 m.pos.y, .int .i64 m.pos.z, .int .i64 m.vel.x, .int .i64 m.vel.y, .int .i64 m.vel.z, .int .u32 m.tick, .int .u32 m.base, .slice p m.bytes.length cap] := by unfold msgC; rw [hk]
  rw [hcm, enc_2 hk, hk]
  clear hcm
  have t0 := fun u => textL 2 4 4 rfl (by decide) u
  have t1 := fun u => textL m.cmd.seq 16 16 rfl (by decide) u
  have t2 := fun u => textL m.cmd.but 2 2 rfl (by decide) u
  have t3 := fun u => textL m.cmd.dx 8 8 rfl (by decide) u
  have t4 := fun u => textL m.cmd.dy 8 8 rfl (by decide) u
  have t5 := fun u => textL (IntKind.i64.wrap (m.cmd.tk - 1)) 3 3 rfl (by decide) u
  have tp := fun u => textL m.prov 16 16 rfl (by decide) u
  obtain ⟨XP, hXP⟩ : ∃ X, bitsK m.prov 16 = X := ⟨_, rfl⟩
  rw [hXP] at tp
  obtain ⟨X0, hX0⟩ : ∃ X, bitsK 2 4 = X := ⟨_, rfl⟩
  have l0 : X0.length ≤ 4 := by rw [← hX0, bitsK_length]; exact Nat.le_refl _
  obtain ⟨X1, hX1⟩ : ∃ X, bitsK m.cmd.seq 16 = X := ⟨_, rfl⟩
  have l1 : X1.length ≤ 16 := by rw [← hX1, bitsK_length]; exact Nat.le_refl _
  obtain ⟨X2, hX2⟩ : ∃ X, bitsK m.cmd.but 2 = X := ⟨_, rfl⟩
  have l2 : X2.length ≤ 2 := by rw [← hX2, bitsK_length]; exact Nat.le_refl _
  obtain ⟨X3, hX3⟩ : ∃ X, bitsK m.cmd.dx 8 = X := ⟨_, rfl⟩
  have l3 : X3.length ≤ 8 := by rw [← hX3, bitsK_length]; exact Nat.le_refl _
  obtain ⟨X4, hX4⟩ : ∃ X, bitsK m.cmd.dy 8 = X := ⟨_, rfl⟩
  have l4 : X4.length ≤ 8 := by rw [← hX4, bitsK_length]; exact Nat.le_refl _
  obtain ⟨X5, hX5⟩ : ∃ X, bitsK (IntKind.i64.wrap (m.cmd.tk - 1)) 3 = X := ⟨_, rfl⟩
  have l5 : X5.length ≤ 3 := by rw [← hX5, bitsK_length]; exact Nat.le_refl _
  rw [hX0] at t0
  rw [hX1] at t1
  rw [hX2] at t2
  rw [hX3] at t3
  rw [hX4] at t4
  rw [hX5] at t5
  rw [hX0, hX1, hX2, hX3, hX4, hX5]
  simp only [← List.append_assoc]
  obtain ⟨a0, hA0⟩ : ∃ s, txt X0 = s := ⟨_, rfl⟩
  rw [hA0] at t0
  have j1 := txt_append (X0) X1
  have s1 := txt_size (X0)
  have r1 := txt_size X1
  try simp only [List.length_append] at s1
  obtain ⟨b1, hb1⟩ : ∃ s, txt X1 = s := ⟨_, rfl⟩
  rw [hb1] at j1 r1 t1
  rw [hA0] at j1 s1
  obtain ⟨a1, hA1⟩ : ∃ s, txt (X0 ++ X1) = s := ⟨_, rfl⟩
  rw [hA1] at j1
  have z1 : ¬ 9223372036854775807 < a0.size + b1.size := by omega
  have j2 := txt_append (X0 ++ X1) X2
  have s2 := txt_size (X0 ++ X1)
  have r2 := txt_size X2
  try simp only [List.length_append] at s2
  obtain ⟨b2, hb2⟩ : ∃ s, txt X2 = s := ⟨_, rfl⟩
  rw [hb2] at j2 r2 t2
  rw [hA1] at j2 s2
  obtain ⟨a2, hA2⟩ : ∃ s, txt (X0 ++ X1 ++ X2) = s := ⟨_, rfl⟩
  rw [hA2] at j2
  have z2 : ¬ 9223372036854775807 < a1.size + b2.size := by omega
  have j3 := txt_append (X0 ++ X1 ++ X2) X3
  have s3 := txt_size (X0 ++ X1 ++ X2)
  have r3 := txt_size X3
  try simp only [List.length_append] at s3
  obtain ⟨b3, hb3⟩ : ∃ s, txt X3 = s := ⟨_, rfl⟩
  rw [hb3] at j3 r3 t3
  rw [hA2] at j3 s3
  obtain ⟨a3, hA3⟩ : ∃ s, txt (X0 ++ X1 ++ X2 ++ X3) = s := ⟨_, rfl⟩
  rw [hA3] at j3
  have z3 : ¬ 9223372036854775807 < a2.size + b3.size := by omega
  have j4 := txt_append (X0 ++ X1 ++ X2 ++ X3) X4
  have s4 := txt_size (X0 ++ X1 ++ X2 ++ X3)
  have r4 := txt_size X4
  try simp only [List.length_append] at s4
  obtain ⟨b4, hb4⟩ : ∃ s, txt X4 = s := ⟨_, rfl⟩
  rw [hb4] at j4 r4 t4
  rw [hA3] at j4 s4
  obtain ⟨a4, hA4⟩ : ∃ s, txt (X0 ++ X1 ++ X2 ++ X3 ++ X4) = s := ⟨_, rfl⟩
  rw [hA4] at j4
  have z4 : ¬ 9223372036854775807 < a3.size + b4.size := by omega
  have j5 := txt_append (X0 ++ X1 ++ X2 ++ X3 ++ X4) X5
  have s5 := txt_size (X0 ++ X1 ++ X2 ++ X3 ++ X4)
  have r5 := txt_size X5
  try simp only [List.length_append] at s5
  obtain ⟨b5, hb5⟩ : ∃ s, txt X5 = s := ⟨_, rfl⟩
  rw [hb5] at j5 r5 t5
  rw [hA4] at j5 s5
  obtain ⟨a5, hA5⟩ : ∃ s, txt (X0 ++ X1 ++ X2 ++ X3 ++ X4 ++ X5) = s := ⟨_, rfl⟩
  rw [hA5] at j5
  have z5 : ¬ 9223372036854775807 < a4.size + b5.size := by omega
  rw [hA5]
  clear hA0 s1 r1 hb1 hA1 s2 r2 hb2 hA2 s3 r3 hb3 hA3 s4 r4 hb4 hA4 s5 r5 hb5 hA5 hX0 l0 hX1 l1 hX2 l2 hX3 l3 hX4 l4 hX5 l5 hXP
  have hb0 : Below w.heap.size w (w.alloc (.cells #[.int .i64 2, .int .u16 m.seq, .int .u16 m.cmd.seq, .int .u8 m.cmd.but, .int .i8 m.cmd.dx, .int .i8 m.cmd.dy, .int .i64 m.cmd.tk, .int .u16 m.prov, .int .i64 m.id, .int .i64 m.shot, .int .i64 m.dir.x, .int .i64 m.dir.y, .int .i64 m.dir.z, .int .i64 m.why, .int .i64 m.pos.x, .int .i64 m.pos.y, .int .i64 m.pos.z, .int .i64 m.vel.x, .int .i64 m.vel.y, .int .i64 m.vel.z, .int .u32 m.tick, .int .u32 m.base, .slice p m.bytes.length cap] 40)) := (Below.refl _ _).alloc (Nat.le_refl _) _
  have A := Bq.new w 40 #[.int .i64 2, .int .u16 m.seq, .int .u16 m.cmd.seq, .int .u8 m.cmd.but, .int .i8 m.cmd.dx, .int .i8 m.cmd.dy, .int .i64 m.cmd.tk, .int .u16 m.prov, .int .i64 m.id, .int .i64 m.shot, .int .i64 m.dir.x, .int .i64 m.dir.y, .int .i64 m.dir.z, .int .i64 m.why, .int .i64 m.pos.x, .int .i64 m.pos.y, .int .i64 m.pos.z, .int .i64 m.vel.x, .int .i64 m.vel.y, .int .i64 m.vel.z, .int .u32 m.tick, .int .u32 m.base, .slice p m.bytes.length cap]
  have HB0 := hid hb0
  have HA0 := hid A
  have q0 := A.cell (i := 0) rfl
  clear hb0 A ha hm hk hlen
  go_enter Try.func53, Try.ntmps53
  go_wp2_with fail
  refine (t0 _).mono ?_
  rintro e u1 ⟨rfl, hb1⟩
  dsimp only
  have HB1 := hid (btrans HB0.out hb1)
  have HA1 := hid (HA0.out.below hb1)
  have q7 := HA1.out.cell (i := 7) rfl
  clear q0 hb1 HB0 HA0 t0
  go_wp2_with fail
  refine (tp _).mono ?_
  rintro e u2 ⟨rfl, hb2⟩
  dsimp only
  have HB2 := hid (btrans HB1.out hb2)
  have HA2 := hid (HA1.out.below hb2)
  have q0 := HA2.out.cell (i := 0) rfl
  clear q7 hb2 HB1 HA1 tp
  have q2 := HA2.out.cell (i := 2) rfl
  have q3 := HA2.out.cell (i := 3) rfl
  have q4 := HA2.out.cell (i := 4) rfl
  have q5 := HA2.out.cell (i := 5) rfl
  have q6 := HA2.out.cell (i := 6) rfl
  go_wp2_with (refine wpList_store_row rfl 35 _ _ rfl u2.heap.size #[.int .u16 m.cmd.seq, .int .u8 m.cmd.but, .int .i8 m.cmd.dx, .int .i8 m.cmd.dy, .int .i64 m.cmd.tk] rfl rfl 35 #[.int .u16 0, .int .u8 0, .int .i8 0, .int .i8 0, .int .i64 0] (heap_alloc_new u2 _) (by kernel_rfl) rfl (by rfl) ?_; rw [World.setRow_alloc_new])
  clear q0 q2 q3 q4 q5 q6
  have HB3 := hid (HB2.out.alloc HB2.out.size (.cells #[.int .u16 m.cmd.seq, .int .u8 m.cmd.but, .int .i8 m.cmd.dx, .int .i8 m.cmd.dy, .int .i64 m.cmd.tk] 35))
  have HA3 := hid (Bq.new u2 35 #[.int .u16 m.cmd.seq, .int .u8 m.cmd.but, .int .i8 m.cmd.dx, .int .i8 m.cmd.dy, .int .i64 m.cmd.tk])
  clear HB2 HA2
  obtain ⟨B, hB⟩ : ∃ B, u2.heap.size = B := ⟨_, rfl⟩
  simp only [hB] at HA3 ⊢
  generalize u2.alloc (.cells #[.int .u16 m.cmd.seq, .int .u8 m.cmd.but, .int .i8 m.cmd.dx, .int .i8 m.cmd.dy, .int .i64 m.cmd.tk] 35) = u3 at *
  clear hB
  have hBd := hid (HB3.out.trans (below_drewN _ 1))
  have hAd := hid (HA3.out.below (below_drewN _ 1))
  refine region_held (fun u => u.cell? ⟨B, 0, none⟩ = some (.int .u16 m.cmd.seq) ∧ u.cell? ⟨B, 1, none⟩ = some (.int .u8 m.cmd.but)) 12 rfl (by kernel_rfl) ⟨hAd.out.cell (i := 0) rfl, hAd.out.cell (i := 1) rfl⟩ ?_
  intro hHeld
  refine takeO 0 (some 20) (v := ?v1) rfl rfl (by kernel_rfl) (by kernel_rfl) (by kernel_rfl) (Or.inl ⟨by rfl, ?y1⟩) hHeld ?r1
  case y1 => (intro w' hSw; (try dsimp only at hSw); go_simp; try with_reducible rfl)
  try simp only [Act.put, List.setIfInBounds_toArray, List.set_cons_zero, List.set_cons_succ]
  refine takeO 1 (some 21) (v := ?v2) rfl rfl (by kernel_rfl) (by kernel_rfl) (by kernel_rfl) (Or.inl ⟨by rfl, ?y2⟩) hHeld ?r2
  case y2 => (intro w' hSw; (try dsimp only at hSw); go_simp; try with_reducible rfl)
  try simp only [Act.put, List.setIfInBounds_toArray, List.set_cons_zero, List.set_cons_succ]
  refine takeO 2 (some 22) (v := ?v3) rfl rfl (by kernel_rfl) (by kernel_rfl) (by kernel_rfl) (Or.inl ⟨by rfl, ?y3⟩) hHeld ?r3
  case y3 => (intro w' hSw; (try dsimp only at hSw); go_simp; try with_reducible rfl)
  try simp only [Act.put, List.setIfInBounds_toArray, List.set_cons_zero, List.set_cons_succ]
  refine takeO 3 (some 23) (v := ?v4) rfl rfl (by kernel_rfl) (by kernel_rfl) (by kernel_rfl) (Or.inl ⟨by rfl, ?y4⟩) hHeld ?r4
  case y4 => (intro w' hSw; (try dsimp only at hSw); go_simp; try with_reducible rfl)
  try simp only [Act.put, List.setIfInBounds_toArray, List.set_cons_zero, List.set_cons_succ]
  refine takeO 6 (some 26) (v := ?v5) rfl rfl (by kernel_rfl) (by kernel_rfl) (by kernel_rfl) (Or.inl ⟨by rfl, ?y5⟩) hHeld ?r5
  case y5 => (intro w' hSw; (try dsimp only at hSw); go_simp; try with_reducible rfl)
  try simp only [Act.put, List.setIfInBounds_toArray, List.set_cons_zero, List.set_cons_succ]
  refine takeO 7 (some 27) (v := ?v6) rfl rfl (by kernel_rfl) (by kernel_rfl) (by kernel_rfl) (Or.inl ⟨by rfl, ?y6⟩) hHeld ?r6
  case y6 => (intro w' hSw; (try dsimp only at hSw); go_simp; try with_reducible rfl)
  try simp only [Act.put, List.setIfInBounds_toArray, List.set_cons_zero, List.set_cons_succ]
  refine takeO 8 (some 28) (v := ?v7) rfl rfl (by kernel_rfl) (by kernel_rfl) (by kernel_rfl) (Or.inl ⟨by rfl, ?y7⟩) hHeld ?r7
  case y7 => (intro w' hSw; (try dsimp only at hSw); go_simp; try with_reducible rfl)
  try simp only [Act.put, List.setIfInBounds_toArray, List.set_cons_zero, List.set_cons_succ]
  refine wpAnyH_ready (rs := [4]) (by kernel_rfl) (by simp) ?_
  refine AllReadyH.cons rfl (fun K hK => ?_) AllReadyH.nil
  go_simp
  refine (t1 _).mono ?_
  rintro e u4 ⟨rfl, hb4⟩
  dsimp only
  have HB4 := hid (btrans hBd.out hb4)
  have HA4 := hid (hAd.out.below hb4)
  refine hK.out _ _ ⟨HA4.out.cell (i := 0) rfl, HA4.out.cell (i := 1) rfl⟩ (fun hHeld => ?_)
  clear hK K hb4 hBd hAd HB3 HA3
  refine takeO 5 (some 25) (v := ?v8) rfl rfl (by kernel_rfl) (by kernel_rfl) (by kernel_rfl) (Or.inl ⟨by rfl, ?y8⟩) hHeld ?r8
  case y8 => (intro w' hSw; (try dsimp only at hSw); go_simp; try with_reducible rfl)
  try simp only [Act.put, List.setIfInBounds_toArray, List.set_cons_zero, List.set_cons_succ]
  refine wpAnyH_ready (rs := [9]) (by kernel_rfl) (by simp) ?_
  refine AllReadyH.cons rfl (fun K hK => ?_) AllReadyH.nil
  go_simp
  refine (t2 _).mono ?_
  rintro e u5 ⟨rfl, hb5⟩
  dsimp only
  have HB5 := hid (btrans HB4.out hb5)
  have HA5 := hid (HA4.out.below hb5)
  refine hK.out _ _ ⟨HA5.out.cell (i := 0) rfl, HA5.out.cell (i := 1) rfl⟩ (fun hHeld => ?_)
  clear hK K hb5 HB4 HA4
  refine takeO 10 (some 30) (v := ?v9) rfl rfl (by kernel_rfl) (by kernel_rfl) (by kernel_rfl) (Or.inl ⟨by rfl, ?y9⟩) hHeld ?r9
  case y9 => (intro w' hSw; (try dsimp only at hSw); go_simp; try with_reducible rfl)
  try simp only [Act.put, List.setIfInBounds_toArray, List.set_cons_zero, List.set_cons_succ]
  refine takeO 11 (some 3) (v := ?v10) rfl rfl (by kernel_rfl) (by kernel_rfl) (by kernel_rfl) (Or.inl ⟨by rfl, ?y10⟩) hHeld ?r10
  case y10 => (intro w' hSw; (try dsimp only at hSw); go_simp; try with_reducible rfl)
  try simp only [Act.put, List.setIfInBounds_toArray, List.set_cons_zero, List.set_cons_succ]
  refine wpAnyH_done (by kernel_rfl) (Only.on ?_) _
  clear hHeld
  clear t1 t2
  go_wp2_with fail
  have hBd := hid (HB5.out.trans (below_drewN _ 1))
  have hAd := hid (HA5.out.below (below_drewN _ 1))
  refine region_held (fun u => u.cell? ⟨B, 2, none⟩ = some (.int .i8 m.cmd.dx) ∧ u.cell? ⟨B, 3, none⟩ = some (.int .i8 m.cmd.dy) ∧ u.cell? ⟨B, 4, none⟩ = some (.int .i64 m.cmd.tk)) 18 rfl (by kernel_rfl) ⟨hAd.out.cell (i := 2) rfl, hAd.out.cell (i := 3) rfl, hAd.out.cell (i := 4) rfl⟩ ?_
  intro hHeld
  refine takeO 0 (some 31) (v := ?v11) rfl rfl (by kernel_rfl) (by kernel_rfl) (by kernel_rfl) (Or.inl ⟨by rfl, ?y11⟩) hHeld ?r11
  case y11 => (intro w' hSw; (try dsimp only at hSw); go_simp; try with_reducible rfl)
  try simp only [Act.put, List.setIfInBounds_toArray, List.set_cons_zero, List.set_cons_succ]
  refine takeO 1 (some 32) (v := ?v12) rfl rfl (by kernel_rfl) (by kernel_rfl) (by kernel_rfl) (Or.inl ⟨by rfl, ?y12⟩) hHeld ?r12
  case y12 => (intro w' hSw; (try dsimp only at hSw); go_simp; try with_reducible rfl)
  try simp only [Act.put, List.setIfInBounds_toArray, List.set_cons_zero, List.set_cons_succ]
  refine takeO 2 (some 33) (v := ?v13) rfl rfl (by kernel_rfl) (by kernel_rfl) (by kernel_rfl) (Or.inl ⟨by rfl, ?y13⟩) hHeld ?r13
  case y13 => (intro w' hSw; (try dsimp only at hSw); go_simp; try with_reducible rfl)
  try simp only [Act.put, List.setIfInBounds_toArray, List.set_cons_zero, List.set_cons_succ]
  refine takeO 3 (some 34) (v := ?v14) rfl rfl (by kernel_rfl) (by kernel_rfl) (by kernel_rfl) (Or.inl ⟨by rfl, ?y14⟩) hHeld ?r14
  case y14 => (intro w' hSw; (try dsimp only at hSw); go_simp; try with_reducible rfl)
  try simp only [Act.put, List.setIfInBounds_toArray, List.set_cons_zero, List.set_cons_succ]
  refine takeO 6 (some 37) (v := ?v15) rfl rfl (by kernel_rfl) (by kernel_rfl) (by kernel_rfl) (Or.inl ⟨by rfl, ?y15⟩) hHeld ?r15
  case y15 => (intro w' hSw; (try dsimp only at hSw); go_simp; try with_reducible rfl)
  try simp only [Act.put, List.setIfInBounds_toArray, List.set_cons_zero, List.set_cons_succ]
  refine takeO 7 (some 38) (v := ?v16) rfl rfl (by kernel_rfl) (by kernel_rfl) (by kernel_rfl) (Or.inl ⟨by rfl, ?y16⟩) hHeld ?r16
  case y16 => (intro w' hSw; (try dsimp only at hSw); go_simp; try with_reducible rfl)
  try simp only [Act.put, List.setIfInBounds_toArray, List.set_cons_zero, List.set_cons_succ]
  refine takeO 8 (some 39) (v := ?v17) rfl rfl (by kernel_rfl) (by kernel_rfl) (by kernel_rfl) (Or.inl ⟨by rfl, ?y17⟩) hHeld ?r17
  case y17 => (intro w' hSw; (try dsimp only at hSw); go_simp; try with_reducible rfl)
  try simp only [Act.put, List.setIfInBounds_toArray, List.set_cons_zero, List.set_cons_succ]
  refine takeO 11 (some 42) (v := ?v18) rfl rfl (by kernel_rfl) (by kernel_rfl) (by kernel_rfl) (Or.inl ⟨by rfl, ?y18⟩) hHeld ?r18
  case y18 => (intro w' hSw; (try dsimp only at hSw); go_simp; try with_reducible rfl)
  try simp only [Act.put, List.setIfInBounds_toArray, List.set_cons_zero, List.set_cons_succ]
  refine takeO 12 (some 43) (v := ?v19) rfl rfl (by kernel_rfl) (by kernel_rfl) (by kernel_rfl) (Or.inl ⟨by rfl, ?y19⟩) hHeld ?r19
  case y19 => (intro w' hSw; (try dsimp only at hSw); go_simp; try with_reducible rfl)
  try simp only [Act.put, List.setIfInBounds_toArray, List.set_cons_zero, List.set_cons_succ]
  refine takeO 13 (some 44) (v := ?v20) rfl rfl (by kernel_rfl) (by kernel_rfl) (by kernel_rfl) (Or.inl ⟨by rfl, ?y20⟩) hHeld ?r20
  case y20 => (intro w' hSw; (try dsimp only at hSw); go_simp; try with_reducible rfl)
  try simp only [Act.put, List.setIfInBounds_toArray, List.set_cons_zero, List.set_cons_succ]
  refine takeO 14 (some 45) (v := ?v21) rfl rfl (by kernel_rfl) (by kernel_rfl) (by kernel_rfl) (Or.inl ⟨by rfl, ?y21⟩) hHeld ?r21
  case y21 => (intro w' hSw; (try dsimp only at hSw); go_simp; try with_reducible rfl)
  try simp only [Act.put, List.setIfInBounds_toArray, List.set_cons_zero, List.set_cons_succ]
  refine wpAnyH_ready (rs := [4]) (by kernel_rfl) (by simp) ?_
  refine AllReadyH.cons rfl (fun K hK => ?_) AllReadyH.nil
  go_simp
  refine (t3 _).mono ?_
  rintro e u6 ⟨rfl, hb6⟩
  dsimp only
  have HB6 := hid (btrans hBd.out hb6)
  have HA6 := hid (hAd.out.below hb6)
  refine hK.out _ _ ⟨HA6.out.cell (i := 2) rfl, HA6.out.cell (i := 3) rfl, HA6.out.cell (i := 4) rfl⟩ (fun hHeld => ?_)
  clear hK K hb6 hBd hAd HB5 HA5
  refine takeO 5 (some 36) (v := ?v22) rfl rfl (by kernel_rfl) (by kernel_rfl) (by kernel_rfl) (Or.inl ⟨by rfl, ?y22⟩) hHeld ?r22
  case y22 => (intro w' hSw; (try dsimp only at hSw); go_simp; try with_reducible rfl)
  try simp only [Act.put, List.setIfInBounds_toArray, List.set_cons_zero, List.set_cons_succ]
  refine wpAnyH_ready (rs := [9]) (by kernel_rfl) (by simp) ?_
  refine AllReadyH.cons rfl (fun K hK => ?_) AllReadyH.nil
  go_simp
  refine (t4 _).mono ?_
  rintro e u7 ⟨rfl, hb7⟩
  dsimp only
  have HB7 := hid (btrans HB6.out hb7)
  have HA7 := hid (HA6.out.below hb7)
  refine hK.out _ _ ⟨HA7.out.cell (i := 2) rfl, HA7.out.cell (i := 3) rfl, HA7.out.cell (i := 4) rfl⟩ (fun hHeld => ?_)
  clear hK K hb7 HB6 HA6
  refine takeO 10 (some 41) (v := ?v23) rfl rfl (by kernel_rfl) (by kernel_rfl) (by kernel_rfl) (Or.inl ⟨by rfl, ?y23⟩) hHeld ?r23
  case y23 => (intro w' hSw; (try dsimp only at hSw); go_simp; try with_reducible rfl)
  try simp only [Act.put, List.setIfInBounds_toArray, List.set_cons_zero, List.set_cons_succ]
  refine wpAnyH_ready (rs := [15]) (by kernel_rfl) (by simp) ?_
  refine AllReadyH.cons rfl (fun K hK => ?_) AllReadyH.nil
  go_simp
  refine (t5 _).mono ?_
  rintro e u8 ⟨rfl, hb8⟩
  dsimp only
  have HB8 := hid (btrans HB7.out hb8)
  have HA8 := hid (HA7.out.below hb8)
  refine hK.out _ _ ⟨HA8.out.cell (i := 2) rfl, HA8.out.cell (i := 3) rfl, HA8.out.cell (i := 4) rfl⟩ (fun hHeld => ?_)
  clear hK K hb8 HB7 HA7
  refine takeO 16 (some 47) (v := ?v24) rfl rfl (by kernel_rfl) (by kernel_rfl) (by kernel_rfl) (Or.inl ⟨by rfl, ?y24⟩) hHeld ?r24
  case y24 => (intro w' hSw; (try dsimp only at hSw); go_simp; try with_reducible rfl)
  try simp only [Act.put, List.setIfInBounds_toArray, List.set_cons_zero, List.set_cons_succ]
  refine takeO 17 (some 3) (v := ?v25) rfl rfl (by kernel_rfl) (by kernel_rfl) (by kernel_rfl) (Or.inl ⟨by rfl, ?y25⟩) hHeld ?r25
  case y25 => (intro w' hSw; (try dsimp only at hSw); go_simp; try with_reducible rfl)
  try simp only [Act.put, List.setIfInBounds_toArray, List.set_cons_zero, List.set_cons_succ]
  refine wpAnyH_done (by kernel_rfl) (Only.on ?_) _
  clear hHeld
  go_wp2_with fail
  go_ret
  exact ⟨rfl, HB8.out⟩
open Go.RowKit Go.Shelf
set_option linter.unusedVariables false
set_option linter.unusedSimpArgs false
attribute [local go_sem ↓] Go.wp_at_zero Go.wp_at_succ
set_option maxRecDepth 100000 in
set_option maxHeartbeats 4000000 in
theorem bits_3 (m : Msg) (p : Option Addr) (cap : Nat) (w : World) (hk : m.kind = 3) (hm : MOk m) (hlen : m.bytes.length ≤ 1023) (ha : Arg w p m.bytes.length cap fun i => .int .u8 ((m.bytes.getD i 0 : Nat) : Int)) :
    Calls Try.prog 53 #[.agg (msgC m (.slice p m.bytes.length cap))] w fun e w' => e = .returned (.string (txt (carr m).enc)) ∧ Below w.heap.size w w' := by
  have hcm : msgC m (.slice p m.bytes.length cap) = #[.int .i64 3, .int .u16 m.seq, .int .u16 m.cmd.seq, .int .u8 m.cmd.but, .int .i8 m.cmd.dx, .int .i8 m.cmd.dy, .int .i64 m.cmd.tk, .int .u16 m.prov, .int .i64 m.id, .int .i64 m.shot, .int .i64 m.dir.x, .int .i64 m.dir.y, .int .i64 m.dir.z, .int .i64 m.why, .int .i64 m.pos.x, .int .i64 m.pos.y, .int .i64 m.pos.z, .int .i64 m.vel.x, .int .i64 m.vel.y, .int .i64 m.vel.z, .int .u32 m.tick, .int .u32 m.base, .slice p m.bytes.length cap] := by unfold msgC; rw [hk]
  rw [hcm, enc_3 hk, hk]
  clear hcm
  have t0 := fun u => textL 3 4 4 rfl (by decide) u
  have t1 := fun u => textL m.prov 16 16 rfl (by decide) u
  have t2 := fun u => textL m.shot 1 1 rfl (by decide) u
  have t3 := fun u => refVecL m.dir 18 18 rfl (by decide) u
  obtain ⟨X0, hX0⟩ : ∃ X, bitsK 3 4 = X := ⟨_, rfl⟩
  have l0 : X0.length ≤ 4 := by rw [← hX0, bitsK_length]; exact Nat.le_refl _
  obtain ⟨X1, hX1⟩ : ∃ X, bitsK m.prov 16 = X := ⟨_, rfl⟩
  have l1 : X1.length ≤ 16 := by rw [← hX1, bitsK_length]; exact Nat.le_refl _
  obtain ⟨X2, hX2⟩ : ∃ X, bitsK m.shot 1 = X := ⟨_, rfl⟩
  have l2 : X2.length ≤ 1 := by rw [← hX2, bitsK_length]; exact Nat.le_refl _
  obtain ⟨X3, hX3⟩ : ∃ X, (bitsK m.dir.x 18 ++ (bitsK m.dir.y 18 ++ bitsK m.dir.z 18)) = X := ⟨_, rfl⟩
  have l3 : X3.length ≤ 54 := by rw [← hX3]; simp only [List.length_append, bitsK_length]; omega
  rw [hX0] at t0
  rw [hX1] at t1
  rw [hX2] at t2
  rw [hX3] at t3
  rw [hX0, hX1, hX2, hX3]
  simp only [← List.append_assoc]
  obtain ⟨a0, hA0⟩ : ∃ s, txt X0 = s := ⟨_, rfl⟩
  rw [hA0] at t0
  have j1 := txt_append (X0) X1
  have s1 := txt_size (X0)
  have r1 := txt_size X1
  try simp only [List.length_append] at s1
  obtain ⟨b1, hb1⟩ : ∃ s, txt X1 = s := ⟨_, rfl⟩
  rw [hb1] at j1 r1 t1
  rw [hA0] at j1 s1
  obtain ⟨a1, hA1⟩ : ∃ s, txt (X0 ++ X1) = s := ⟨_, rfl⟩
  rw [hA1] at j1
  have z1 : ¬ 9223372036854775807 < a0.size + b1.size := by omega
  have j2 := txt_append (X0 ++ X1) X2
  have s2 := txt_size (X0 ++ X1)
  have r2 := txt_size X2
  try simp only [List.length_append] at s2
  obtain ⟨b2, hb2⟩ : ∃ s, txt X2 = s := ⟨_, rfl⟩
  rw [hb2] at j2 r2 t2
  rw [hA1] at j2 s2
  obtain ⟨a2, hA2⟩ : ∃ s, txt (X0 ++ X1 ++ X2) = s := ⟨_, rfl⟩
  rw [hA2] at j2
  have z2 : ¬ 9223372036854775807 < a1.size + b2.size := by omega
  have j3 := txt_append (X0 ++ X1 ++ X2) X3
  have s3 := txt_size (X0 ++ X1 ++ X2)
  have r3 := txt_size X3
  try simp only [List.length_append] at s3
  obtain ⟨b3, hb3⟩ : ∃ s, txt X3 = s := ⟨_, rfl⟩
  rw [hb3] at j3 r3 t3
  rw [hA2] at j3 s3
  obtain ⟨a3, hA3⟩ : ∃ s, txt (X0 ++ X1 ++ X2 ++ X3) = s := ⟨_, rfl⟩
  rw [hA3] at j3
  have z3 : ¬ 9223372036854775807 < a2.size + b3.size := by omega
  rw [hA3]
  clear hA0 s1 r1 hb1 hA1 s2 r2 hb2 hA2 s3 r3 hb3 hA3 hX0 l0 hX1 l1 hX2 l2 hX3 l3
  have hb0 : Below w.heap.size w (w.alloc (.cells #[.int .i64 3, .int .u16 m.seq, .int .u16 m.cmd.seq, .int .u8 m.cmd.but, .int .i8 m.cmd.dx, .int .i8 m.cmd.dy, .int .i64 m.cmd.tk, .int .u16 m.prov, .int .i64 m.id, .int .i64 m.shot, .int .i64 m.dir.x, .int .i64 m.dir.y, .int .i64 m.dir.z, .int .i64 m.why, .int .i64 m.pos.x, .int .i64 m.pos.y, .int .i64 m.pos.z, .int .i64 m.vel.x, .int .i64 m.vel.y, .int .i64 m.vel.z, .int .u32 m.tick, .int .u32 m.base, .slice p m.bytes.length cap] 40)) := (Below.refl _ _).alloc (Nat.le_refl _) _
  have A := Bq.new w 40 #[.int .i64 3, .int .u16 m.seq, .int .u16 m.cmd.seq, .int .u8 m.cmd.but, .int .i8 m.cmd.dx, .int .i8 m.cmd.dy, .int .i64 m.cmd.tk, .int .u16 m.prov, .int .i64 m.id, .int .i64 m.shot, .int .i64 m.dir.x, .int .i64 m.dir.y, .int .i64 m.dir.z, .int .i64 m.why, .int .i64 m.pos.x, .int .i64 m.pos.y, .int .i64 m.pos.z, .int .i64 m.vel.x, .int .i64 m.vel.y, .int .i64 m.vel.z, .int .u32 m.tick, .int .u32 m.base, .slice p m.bytes.length cap]
  have HB0 := hid hb0
  have HA0 := hid A
  have q0 := A.cell (i := 0) rfl
  clear hb0 A ha hm hk hlen
  go_enter Try.func53, Try.ntmps53
  go_wp2_with fail
  refine (t0 _).mono ?_
  rintro e u1 ⟨rfl, hb1⟩
  dsimp only
  have HB1 := hid (btrans HB0.out hb1)
  have HA1 := hid (HA0.out.below hb1)
  have q7 := HA1.out.cell (i := 7) rfl
  clear q0 hb1 HB0 HA0 t0
  go_wp2_with fail
  refine (t1 _).mono ?_
  rintro e u2 ⟨rfl, hb2⟩
  dsimp only
  have HB2 := hid (btrans HB1.out hb2)
  have HA2 := hid (HA1.out.below hb2)
  have q0 := HA2.out.cell (i := 0) rfl
  clear q7 hb2 HB1 HA1 t1
  go_wp2_with fail
  clear q0
  have hBd := hid (HB2.out.trans (below_drewN _ 1))
  have hAd := hid (HA2.out.below (below_drewN _ 1))
  refine region_held (fun u => u.cell? ⟨w.heap.size, 9, none⟩ = some (.int .i64 m.shot) ∧ u.cell? ⟨w.heap.size, 10, none⟩ = some (.int .i64 m.dir.x) ∧ u.cell? ⟨w.heap.size, 11, none⟩ = some (.int .i64 m.dir.y) ∧ u.cell? ⟨w.heap.size, 12, none⟩ = some (.int .i64 m.dir.z)) 13 rfl (by kernel_rfl) ⟨hAd.out.cell (i := 9) rfl, hAd.out.cell (i := 10) rfl, hAd.out.cell (i := 11) rfl, hAd.out.cell (i := 12) rfl⟩ ?_
  intro hHeld
  refine takeO 0 (some 50) (v := ?v1) rfl rfl (by kernel_rfl) (by kernel_rfl) (by kernel_rfl) (Or.inl ⟨by rfl, ?y1⟩) hHeld ?r1
  case y1 => (intro w' hSw; (try dsimp only at hSw); go_simp; try with_reducible rfl)
  try simp only [Act.put, List.setIfInBounds_toArray, List.set_cons_zero, List.set_cons_succ]
  refine takeO 1 (some 51) (v := ?v2) rfl rfl (by kernel_rfl) (by kernel_rfl) (by kernel_rfl) (Or.inl ⟨by rfl, ?y2⟩) hHeld ?r2
  case y2 => (intro w' hSw; (try dsimp only at hSw); go_simp; try with_reducible rfl)
  try simp only [Act.put, List.setIfInBounds_toArray, List.set_cons_zero, List.set_cons_succ]
  refine takeO 2 (some 52) (v := ?v3) rfl rfl (by kernel_rfl) (by kernel_rfl) (by kernel_rfl) (Or.inl ⟨by rfl, ?y3⟩) hHeld ?r3
  case y3 => (intro w' hSw; (try dsimp only at hSw); go_simp; try with_reducible rfl)
  try simp only [Act.put, List.setIfInBounds_toArray, List.set_cons_zero, List.set_cons_succ]
  refine takeO 3 (some 53) (v := ?v4) rfl rfl (by kernel_rfl) (by kernel_rfl) (by kernel_rfl) (Or.inl ⟨by rfl, ?y4⟩) hHeld ?r4
  case y4 => (intro w' hSw; (try dsimp only at hSw); go_simp; try with_reducible rfl)
  try simp only [Act.put, List.setIfInBounds_toArray, List.set_cons_zero, List.set_cons_succ]
  refine takeO 4 (some 54) (v := ?v5) rfl rfl (by kernel_rfl) (by kernel_rfl) (by kernel_rfl) (Or.inl ⟨by rfl, ?y5⟩) hHeld ?r5
  case y5 => (intro w' hSw; (try dsimp only at hSw); go_simp; try with_reducible rfl)
  try simp only [Act.put, List.setIfInBounds_toArray, List.set_cons_zero, List.set_cons_succ]
  refine takeO 5 (some 55) (v := ?v6) rfl rfl (by kernel_rfl) (by kernel_rfl) (by kernel_rfl) (Or.inl ⟨by rfl, ?y6⟩) hHeld ?r6
  case y6 => (intro w' hSw; (try dsimp only at hSw); go_simp; try with_reducible rfl)
  try simp only [Act.put, List.setIfInBounds_toArray, List.set_cons_zero, List.set_cons_succ]
  refine takeO 8 (some 58) (v := ?v7) rfl rfl (by kernel_rfl) (by kernel_rfl) (by kernel_rfl) (Or.inl ⟨by rfl, ?y7⟩) hHeld ?r7
  case y7 => (intro w' hSw; (try dsimp only at hSw); go_simp; try with_reducible rfl)
  try simp only [Act.put, List.setIfInBounds_toArray, List.set_cons_zero, List.set_cons_succ]
  refine takeO 9 (some 59) (v := ?v8) rfl rfl (by kernel_rfl) (by kernel_rfl) (by kernel_rfl) (Or.inl ⟨by rfl, ?y8⟩) hHeld ?r8
  case y8 => (intro w' hSw; (try dsimp only at hSw); go_simp; try with_reducible rfl)
  try simp only [Act.put, List.setIfInBounds_toArray, List.set_cons_zero, List.set_cons_succ]
  refine wpAnyH_ready (rs := [6]) (by kernel_rfl) (by simp) ?_
  refine AllReadyH.cons rfl (fun K hK => ?_) AllReadyH.nil
  go_simp
  refine (t2 _).mono ?_
  rintro e u3 ⟨rfl, hb3⟩
  dsimp only
  have HB3 := hid (btrans hBd.out hb3)
  have HA3 := hid (hAd.out.below hb3)
  refine hK.out _ _ ⟨HA3.out.cell (i := 9) rfl, HA3.out.cell (i := 10) rfl, HA3.out.cell (i := 11) rfl, HA3.out.cell (i := 12) rfl⟩ (fun hHeld => ?_)
  clear hK K hb3 hBd hAd HB2 HA2
  refine takeO 7 (some 57) (v := ?v9) rfl rfl (by kernel_rfl) (by kernel_rfl) (by kernel_rfl) (Or.inl ⟨by rfl, ?y9⟩) hHeld ?r9
  case y9 => (intro w' hSw; (try dsimp only at hSw); go_simp; try with_reducible rfl)
  try simp only [Act.put, List.setIfInBounds_toArray, List.set_cons_zero, List.set_cons_succ]
  refine wpAnyH_ready (rs := [10]) (by kernel_rfl) (by simp) ?_
  refine AllReadyH.cons rfl (fun K hK => ?_) AllReadyH.nil
  go_simp
  refine (t3 _).mono ?_
  rintro e u4 ⟨rfl, hb4⟩
  dsimp only
  have HB4 := hid (btrans HB3.out hb4)
  have HA4 := hid (HA3.out.below hb4)
  refine hK.out _ _ ⟨HA4.out.cell (i := 9) rfl, HA4.out.cell (i := 10) rfl, HA4.out.cell (i := 11) rfl, HA4.out.cell (i := 12) rfl⟩ (fun hHeld => ?_)
  clear hK K hb4 HB3 HA3
  refine takeO 11 (some 61) (v := ?v10) rfl rfl (by kernel_rfl) (by kernel_rfl) (by kernel_rfl) (Or.inl ⟨by rfl, ?y10⟩) hHeld ?r10
  case y10 => (intro w' hSw; (try dsimp only at hSw); go_simp; try with_reducible rfl)
  try simp only [Act.put, List.setIfInBounds_toArray, List.set_cons_zero, List.set_cons_succ]
  refine takeO 12 (some 3) (v := ?v11) rfl rfl (by kernel_rfl) (by kernel_rfl) (by kernel_rfl) (Or.inl ⟨by rfl, ?y11⟩) hHeld ?r11
  case y11 => (intro w' hSw; (try dsimp only at hSw); go_simp; try with_reducible rfl)
  try simp only [Act.put, List.setIfInBounds_toArray, List.set_cons_zero, List.set_cons_succ]
  refine wpAnyH_done (by kernel_rfl) (Only.on ?_) _
  clear hHeld
  go_wp2_with fail
  go_ret
  exact ⟨rfl, HB4.out⟩
open Go.RowKit Go.Shelf
set_option linter.unusedVariables false
set_option linter.unusedSimpArgs false
attribute [local go_sem ↓] Go.wp_at_zero Go.wp_at_succ
set_option maxRecDepth 100000 in
set_option maxHeartbeats 4000000 in
theorem bits_5 (m : Msg) (p : Option Addr) (cap : Nat) (w : World) (hk : m.kind = 5) (hm : MOk m) (hlen : m.bytes.length ≤ 1023) (ha : Arg w p m.bytes.length cap fun i => .int .u8 ((m.bytes.getD i 0 : Nat) : Int)) :
    Calls Try.prog 53 #[.agg (msgC m (.slice p m.bytes.length cap))] w fun e w' => e = .returned (.string (txt (carr m).enc)) ∧ Below w.heap.size w w' := by
  have hcm : msgC m (.slice p m.bytes.length cap) = #[.int .i64 5, .int .u16 m.seq, .int .u16 m.cmd.seq, .int .u8 m.cmd.but, .int .i8 m.cmd.dx, .int .i8 m.cmd.dy, .int .i64 m.cmd.tk, .int .u16 m.prov, .int .i64 m.id, .int .i64 m.shot, .int .i64 m.dir.x, .int .i64 m.dir.y, .int .i64 m.dir.z, .int .i64 m.why, .int .i64 m.pos.x, .int .i64 m.pos.y, .int .i64 m.pos.z, .int .i64 m.vel.x, .int .i64 m.vel.y, .int .i64 m.vel.z, .int .u32 m.tick, .int .u32 m.base, .slice p m.bytes.length cap] := by unfold msgC; rw [hk]
  rw [hcm, enc_5 hk, hk]
  clear hcm
  have t0 := fun u => textL 5 4 4 rfl (by decide) u
  have t1 := fun u => textL m.id 31 31 rfl (by decide) u
  have tp := fun u => textL m.prov 16 16 rfl (by decide) u
  obtain ⟨XP, hXP⟩ : ∃ X, bitsK m.prov 16 = X := ⟨_, rfl⟩
  rw [hXP] at tp
  obtain ⟨X0, hX0⟩ : ∃ X, bitsK 5 4 = X := ⟨_, rfl⟩
  have l0 : X0.length ≤ 4 := by rw [← hX0, bitsK_length]; exact Nat.le_refl _
  obtain ⟨X1, hX1⟩ : ∃ X, bitsK m.id 31 = X := ⟨_, rfl⟩
  have l1 : X1.length ≤ 31 := by rw [← hX1, bitsK_length]; exact Nat.le_refl _
  rw [hX0] at t0
  rw [hX1] at t1
  rw [hX0, hX1]
  obtain ⟨a0, hA0⟩ : ∃ s, txt X0 = s := ⟨_, rfl⟩
  rw [hA0] at t0
  have j1 := txt_append (X0) X1
  have s1 := txt_size (X0)
  have r1 := txt_size X1
  try simp only [List.length_append] at s1
  obtain ⟨b1, hb1⟩ : ∃ s, txt X1 = s := ⟨_, rfl⟩
  rw [hb1] at j1 r1 t1
  rw [hA0] at j1 s1
  obtain ⟨a1, hA1⟩ : ∃ s, txt (X0 ++ X1) = s := ⟨_, rfl⟩
  rw [hA1] at j1
  have z1 : ¬ 9223372036854775807 < a0.size + b1.size := by omega
  rw [hA1]
  clear hA0 s1 r1 hb1 hA1 hX0 l0 hX1 l1 hXP
  have hb0 : Below w.heap.size w (w.alloc (.cells #[.int .i64 5, .int .u16 m.seq, .int .u16 m.cmd.seq, .int .u8 m.cmd.but, .int .i8 m.cmd.dx, .int .i8 m.cmd.dy, .int .i64 m.cmd.tk, .int .u16 m.prov, .int .i64 m.id, .int .i64 m.shot, .int .i64 m.dir.x, .int .i64 m.dir.y, .int .i64 m.dir.z, .int .i64 m.why, .int .i64 m.pos.x, .int .i64 m.pos.y, .int .i64 m.pos.z, .int .i64 m.vel.x, .int .i64 m.vel.y, .int .i64 m.vel.z, .int .u32 m.tick, .int .u32 m.base, .slice p m.bytes.length cap] 40)) := (Below.refl _ _).alloc (Nat.le_refl _) _
  have A := Bq.new w 40 #[.int .i64 5, .int .u16 m.seq, .int .u16 m.cmd.seq, .int .u8 m.cmd.but, .int .i8 m.cmd.dx, .int .i8 m.cmd.dy, .int .i64 m.cmd.tk, .int .u16 m.prov, .int .i64 m.id, .int .i64 m.shot, .int .i64 m.dir.x, .int .i64 m.dir.y, .int .i64 m.dir.z, .int .i64 m.why, .int .i64 m.pos.x, .int .i64 m.pos.y, .int .i64 m.pos.z, .int .i64 m.vel.x, .int .i64 m.vel.y, .int .i64 m.vel.z, .int .u32 m.tick, .int .u32 m.base, .slice p m.bytes.length cap]
  have HB0 := hid hb0
  have HA0 := hid A
  have q0 := A.cell (i := 0) rfl
  clear hb0 A ha hm hk hlen
  go_enter Try.func53, Try.ntmps53
  go_wp2_with fail
  refine (t0 _).mono ?_
  rintro e u1 ⟨rfl, hb1⟩
  dsimp only
  have HB1 := hid (btrans HB0.out hb1)
  have HA1 := hid (HA0.out.below hb1)
  have q7 := HA1.out.cell (i := 7) rfl
  clear q0 hb1 HB0 HA0 t0
  go_wp2_with fail
  refine (tp _).mono ?_
  rintro e u2 ⟨rfl, hb2⟩
  dsimp only
  have HB2 := hid (btrans HB1.out hb2)
  have HA2 := hid (HA1.out.below hb2)
  have q0 := HA2.out.cell (i := 0) rfl
  clear q7 hb2 HB1 HA1 tp
  have q8 := HA2.out.cell (i := 8) rfl
  go_wp2_with fail
  refine (t1 _).mono ?_
  rintro e u3 ⟨rfl, hb3⟩
  dsimp only
  have HB3 := hid (btrans HB2.out hb3)
  clear q8 q0 hb3 HB2 HA2 t1
  go_wp2_with fail
  go_ret
  exact ⟨rfl, HB3.out⟩
open Go.RowKit Go.Shelf
set_option linter.unusedVariables false
set_option linter.unusedSimpArgs false
attribute [local go_sem ↓] Go.wp_at_zero Go.wp_at_succ
set_option maxRecDepth 100000 in
set_option maxHeartbeats 4000000 in
theorem bits_6 (m : Msg) (p : Option Addr) (cap : Nat) (w : World) (hk : m.kind = 6) (hm : MOk m) (hlen : m.bytes.length ≤ 1023) (ha : Arg w p m.bytes.length cap fun i => .int .u8 ((m.bytes.getD i 0 : Nat) : Int)) :
    Calls Try.prog 53 #[.agg (msgC m (.slice p m.bytes.length cap))] w fun e w' => e = .returned (.string (txt (carr m).enc)) ∧ Below w.heap.size w w' := by
  have hcm : msgC m (.slice p m.bytes.length cap) = #[.int .i64 6, .int .u16 m.seq, .int .u16 m.cmd.seq, .int .u8 m.cmd.but, .int .i8 m.cmd.dx, .int .i8 m.cmd.dy, .int .i64 m.cmd.tk, .int .u16 m.prov, .int .i64 m.id, .int .i64 m.shot, .int .i64 m.dir.x, .int .i64 m.dir.y, .int .i64 m.dir.z, .int .i64 m.why, .int .i64 m.pos.x, .int .i64 m.pos.y, .int .i64 m.pos.z, .int .i64 m.vel.x, .int .i64 m.vel.y, .int .i64 m.vel.z, .int .u32 m.tick, .int .u32 m.base, .slice p m.bytes.length cap] := by unfold msgC; rw [hk]
  rw [hcm, enc_6 hk, hk]
  clear hcm
  have t0 := fun u => textL 6 4 4 rfl (by decide) u
  have t1 := fun u => textL m.seq 16 16 rfl (by decide) u
  have t2 := fun u => refVecL m.pos 32 32 rfl (by decide) u
  have t3 := fun u => refVecL m.vel 32 32 rfl (by decide) u
  have tp := fun u => textL m.prov 16 16 rfl (by decide) u
  obtain ⟨XP, hXP⟩ : ∃ X, bitsK m.prov 16 = X := ⟨_, rfl⟩
  rw [hXP] at tp
  obtain ⟨X0, hX0⟩ : ∃ X, bitsK 6 4 = X := ⟨_, rfl⟩
  have l0 : X0.length ≤ 4 := by rw [← hX0, bitsK_length]; exact Nat.le_refl _
  obtain ⟨X1, hX1⟩ : ∃ X, bitsK m.seq 16 = X := ⟨_, rfl⟩
  have l1 : X1.length ≤ 16 := by rw [← hX1, bitsK_length]; exact Nat.le_refl _
  obtain ⟨X2, hX2⟩ : ∃ X, (bitsK m.pos.x 32 ++ (bitsK m.pos.y 32 ++ bitsK m.pos.z 32)) = X := ⟨_, rfl⟩
  have l2 : X2.length ≤ 96 := by rw [← hX2]; simp only [List.length_append, bitsK_length]; omega
  obtain ⟨X3, hX3⟩ : ∃ X, (bitsK m.vel.x 32 ++ (bitsK m.vel.y 32 ++ bitsK m.vel.z 32)) = X := ⟨_, rfl⟩
  have l3 : X3.length ≤ 96 := by rw [← hX3]; simp only [List.length_append, bitsK_length]; omega
  rw [hX0] at t0
  rw [hX1] at t1
  rw [hX2] at t2
  rw [hX3] at t3
  rw [hX0, hX1, hX2, hX3]
  simp only [← List.append_assoc]
  obtain ⟨a0, hA0⟩ : ∃ s, txt X0 = s := ⟨_, rfl⟩
  rw [hA0] at t0
  have j1 := txt_append (X0) X1
  have s1 := txt_size (X0)
  have r1 := txt_size X1
  try simp only [List.length_append] at s1
  obtain ⟨b1, hb1⟩ : ∃ s, txt X1 = s := ⟨_, rfl⟩
  rw [hb1] at j1 r1 t1
  rw [hA0] at j1 s1
  obtain ⟨a1, hA1⟩ : ∃ s, txt (X0 ++ X1) = s := ⟨_, rfl⟩
  rw [hA1] at j1
  have z1 : ¬ 9223372036854775807 < a0.size + b1.size := by omega
  have j2 := txt_append (X0 ++ X1) X2
  have s2 := txt_size (X0 ++ X1)
  have r2 := txt_size X2
  try simp only [List.length_append] at s2
  obtain ⟨b2, hb2⟩ : ∃ s, txt X2 = s := ⟨_, rfl⟩
  rw [hb2] at j2 r2 t2
  rw [hA1] at j2 s2
  obtain ⟨a2, hA2⟩ : ∃ s, txt (X0 ++ X1 ++ X2) = s := ⟨_, rfl⟩
  rw [hA2] at j2
  have z2 : ¬ 9223372036854775807 < a1.size + b2.size := by omega
  have j3 := txt_append (X0 ++ X1 ++ X2) X3
  have s3 := txt_size (X0 ++ X1 ++ X2)
  have r3 := txt_size X3
  try simp only [List.length_append] at s3
  obtain ⟨b3, hb3⟩ : ∃ s, txt X3 = s := ⟨_, rfl⟩
  rw [hb3] at j3 r3 t3
  rw [hA2] at j3 s3
  obtain ⟨a3, hA3⟩ : ∃ s, txt (X0 ++ X1 ++ X2 ++ X3) = s := ⟨_, rfl⟩
  rw [hA3] at j3
  have z3 : ¬ 9223372036854775807 < a2.size + b3.size := by omega
  rw [hA3]
  clear hA0 s1 r1 hb1 hA1 s2 r2 hb2 hA2 s3 r3 hb3 hA3 hX0 l0 hX1 l1 hX2 l2 hX3 l3 hXP
  have hb0 : Below w.heap.size w (w.alloc (.cells #[.int .i64 6, .int .u16 m.seq, .int .u16 m.cmd.seq, .int .u8 m.cmd.but, .int .i8 m.cmd.dx, .int .i8 m.cmd.dy, .int .i64 m.cmd.tk, .int .u16 m.prov, .int .i64 m.id, .int .i64 m.shot, .int .i64 m.dir.x, .int .i64 m.dir.y, .int .i64 m.dir.z, .int .i64 m.why, .int .i64 m.pos.x, .int .i64 m.pos.y, .int .i64 m.pos.z, .int .i64 m.vel.x, .int .i64 m.vel.y, .int .i64 m.vel.z, .int .u32 m.tick, .int .u32 m.base, .slice p m.bytes.length cap] 40)) := (Below.refl _ _).alloc (Nat.le_refl _) _
  have A := Bq.new w 40 #[.int .i64 6, .int .u16 m.seq, .int .u16 m.cmd.seq, .int .u8 m.cmd.but, .int .i8 m.cmd.dx, .int .i8 m.cmd.dy, .int .i64 m.cmd.tk, .int .u16 m.prov, .int .i64 m.id, .int .i64 m.shot, .int .i64 m.dir.x, .int .i64 m.dir.y, .int .i64 m.dir.z, .int .i64 m.why, .int .i64 m.pos.x, .int .i64 m.pos.y, .int .i64 m.pos.z, .int .i64 m.vel.x, .int .i64 m.vel.y, .int .i64 m.vel.z, .int .u32 m.tick, .int .u32 m.base, .slice p m.bytes.length cap]
  have HB0 := hid hb0
  have HA0 := hid A
  have q0 := A.cell (i := 0) rfl
  clear hb0 A ha hm hk hlen
  go_enter Try.func53, Try.ntmps53
  go_wp2_with fail
  refine (t0 _).mono ?_
  rintro e u1 ⟨rfl, hb1⟩
  dsimp only
  have HB1 := hid (btrans HB0.out hb1)
  have HA1 := hid (HA0.out.below hb1)
  have q7 := HA1.out.cell (i := 7) rfl
  clear q0 hb1 HB0 HA0 t0
  go_wp2_with fail
  refine (tp _).mono ?_
  rintro e u2 ⟨rfl, hb2⟩
  dsimp only
  have HB2 := hid (btrans HB1.out hb2)
  have HA2 := hid (HA1.out.below hb2)
  have q0 := HA2.out.cell (i := 0) rfl
  clear q7 hb2 HB1 HA1 tp
  go_wp2_with fail
  clear q0
  have hBd := hid (HB2.out.trans (below_drewN _ 1))
  have hAd := hid (HA2.out.below (below_drewN _ 1))
  refine region_held (fun u => u.cell? ⟨w.heap.size, 1, none⟩ = some (.int .u16 m.seq) ∧ u.cell? ⟨w.heap.size, 14, none⟩ = some (.int .i64 m.pos.x) ∧ u.cell? ⟨w.heap.size, 15, none⟩ = some (.int .i64 m.pos.y) ∧ u.cell? ⟨w.heap.size, 16, none⟩ = some (.int .i64 m.pos.z) ∧ u.cell? ⟨w.heap.size, 17, none⟩ = some (.int .i64 m.vel.x) ∧ u.cell? ⟨w.heap.size, 18, none⟩ = some (.int .i64 m.vel.y) ∧ u.cell? ⟨w.heap.size, 19, none⟩ = some (.int .i64 m.vel.z)) 15 rfl (by kernel_rfl) ⟨hAd.out.cell (i := 1) rfl, hAd.out.cell (i := 14) rfl, hAd.out.cell (i := 15) rfl, hAd.out.cell (i := 16) rfl, hAd.out.cell (i := 17) rfl, hAd.out.cell (i := 18) rfl, hAd.out.cell (i := 19) rfl⟩ ?_
  intro hHeld
  refine takeO 0 (some 72) (v := ?v1) rfl rfl (by kernel_rfl) (by kernel_rfl) (by kernel_rfl) (Or.inl ⟨by rfl, ?y1⟩) hHeld ?r1
  case y1 => (intro w' hSw; (try dsimp only at hSw); go_simp; try with_reducible rfl)
  try simp only [Act.put, List.setIfInBounds_toArray, List.set_cons_zero, List.set_cons_succ]
  refine takeO 1 (some 73) (v := ?v2) rfl rfl (by kernel_rfl) (by kernel_rfl) (by kernel_rfl) (Or.inl ⟨by rfl, ?y2⟩) hHeld ?r2
  case y2 => (intro w' hSw; (try dsimp only at hSw); go_simp; try with_reducible rfl)
  try simp only [Act.put, List.setIfInBounds_toArray, List.set_cons_zero, List.set_cons_succ]
  refine takeO 2 (some 74) (v := ?v3) rfl rfl (by kernel_rfl) (by kernel_rfl) (by kernel_rfl) (Or.inl ⟨by rfl, ?y3⟩) hHeld ?r3
  case y3 => (intro w' hSw; (try dsimp only at hSw); go_simp; try with_reducible rfl)
  try simp only [Act.put, List.setIfInBounds_toArray, List.set_cons_zero, List.set_cons_succ]
  refine takeO 3 (some 75) (v := ?v4) rfl rfl (by kernel_rfl) (by kernel_rfl) (by kernel_rfl) (Or.inl ⟨by rfl, ?y4⟩) hHeld ?r4
  case y4 => (intro w' hSw; (try dsimp only at hSw); go_simp; try with_reducible rfl)
  try simp only [Act.put, List.setIfInBounds_toArray, List.set_cons_zero, List.set_cons_succ]
  refine takeO 6 (some 78) (v := ?v5) rfl rfl (by kernel_rfl) (by kernel_rfl) (by kernel_rfl) (Or.inl ⟨by rfl, ?y5⟩) hHeld ?r5
  case y5 => (intro w' hSw; (try dsimp only at hSw); go_simp; try with_reducible rfl)
  try simp only [Act.put, List.setIfInBounds_toArray, List.set_cons_zero, List.set_cons_succ]
  refine takeO 7 (some 79) (v := ?v6) rfl rfl (by kernel_rfl) (by kernel_rfl) (by kernel_rfl) (Or.inl ⟨by rfl, ?y6⟩) hHeld ?r6
  case y6 => (intro w' hSw; (try dsimp only at hSw); go_simp; try with_reducible rfl)
  try simp only [Act.put, List.setIfInBounds_toArray, List.set_cons_zero, List.set_cons_succ]
  refine takeO 10 (some 82) (v := ?v7) rfl rfl (by kernel_rfl) (by kernel_rfl) (by kernel_rfl) (Or.inl ⟨by rfl, ?y7⟩) hHeld ?r7
  case y7 => (intro w' hSw; (try dsimp only at hSw); go_simp; try with_reducible rfl)
  try simp only [Act.put, List.setIfInBounds_toArray, List.set_cons_zero, List.set_cons_succ]
  refine takeO 11 (some 83) (v := ?v8) rfl rfl (by kernel_rfl) (by kernel_rfl) (by kernel_rfl) (Or.inl ⟨by rfl, ?y8⟩) hHeld ?r8
  case y8 => (intro w' hSw; (try dsimp only at hSw); go_simp; try with_reducible rfl)
  try simp only [Act.put, List.setIfInBounds_toArray, List.set_cons_zero, List.set_cons_succ]
  refine wpAnyH_ready (rs := [4]) (by kernel_rfl) (by simp) ?_
  refine AllReadyH.cons rfl (fun K hK => ?_) AllReadyH.nil
  go_simp
  refine (t1 _).mono ?_
  rintro e u3 ⟨rfl, hb3⟩
  dsimp only
  have HB3 := hid (btrans hBd.out hb3)
  have HA3 := hid (hAd.out.below hb3)
  refine hK.out _ _ ⟨HA3.out.cell (i := 1) rfl, HA3.out.cell (i := 14) rfl, HA3.out.cell (i := 15) rfl, HA3.out.cell (i := 16) rfl, HA3.out.cell (i := 17) rfl, HA3.out.cell (i := 18) rfl, HA3.out.cell (i := 19) rfl⟩ (fun hHeld => ?_)
  clear hK K hb3 hBd hAd HB2 HA2
  refine takeO 5 (some 77) (v := ?v9) rfl rfl (by kernel_rfl) (by kernel_rfl) (by kernel_rfl) (Or.inl ⟨by rfl, ?y9⟩) hHeld ?r9
  case y9 => (intro w' hSw; (try dsimp only at hSw); go_simp; try with_reducible rfl)
  try simp only [Act.put, List.setIfInBounds_toArray, List.set_cons_zero, List.set_cons_succ]
  refine wpAnyH_ready (rs := [8]) (by kernel_rfl) (by simp) ?_
  refine AllReadyH.cons rfl (fun K hK => ?_) AllReadyH.nil
  go_simp
  refine (t2 _).mono ?_
  rintro e u4 ⟨rfl, hb4⟩
  dsimp only
  have HB4 := hid (btrans HB3.out hb4)
  have HA4 := hid (HA3.out.below hb4)
  refine hK.out _ _ ⟨HA4.out.cell (i := 1) rfl, HA4.out.cell (i := 14) rfl, HA4.out.cell (i := 15) rfl, HA4.out.cell (i := 16) rfl, HA4.out.cell (i := 17) rfl, HA4.out.cell (i := 18) rfl, HA4.out.cell (i := 19) rfl⟩ (fun hHeld => ?_)
  clear hK K hb4 HB3 HA3
  refine takeO 9 (some 81) (v := ?v10) rfl rfl (by kernel_rfl) (by kernel_rfl) (by kernel_rfl) (Or.inl ⟨by rfl, ?y10⟩) hHeld ?r10
  case y10 => (intro w' hSw; (try dsimp only at hSw); go_simp; try with_reducible rfl)
  try simp only [Act.put, List.setIfInBounds_toArray, List.set_cons_zero, List.set_cons_succ]
  refine wpAnyH_ready (rs := [12]) (by kernel_rfl) (by simp) ?_
  refine AllReadyH.cons rfl (fun K hK => ?_) AllReadyH.nil
  go_simp
  refine (t3 _).mono ?_
  rintro e u5 ⟨rfl, hb5⟩
  dsimp only
  have HB5 := hid (btrans HB4.out hb5)
  have HA5 := hid (HA4.out.below hb5)
  refine hK.out _ _ ⟨HA5.out.cell (i := 1) rfl, HA5.out.cell (i := 14) rfl, HA5.out.cell (i := 15) rfl, HA5.out.cell (i := 16) rfl, HA5.out.cell (i := 17) rfl, HA5.out.cell (i := 18) rfl, HA5.out.cell (i := 19) rfl⟩ (fun hHeld => ?_)
  clear hK K hb5 HB4 HA4
  refine takeO 13 (some 85) (v := ?v11) rfl rfl (by kernel_rfl) (by kernel_rfl) (by kernel_rfl) (Or.inl ⟨by rfl, ?y11⟩) hHeld ?r11
  case y11 => (intro w' hSw; (try dsimp only at hSw); go_simp; try with_reducible rfl)
  try simp only [Act.put, List.setIfInBounds_toArray, List.set_cons_zero, List.set_cons_succ]
  refine takeO 14 (some 3) (v := ?v12) rfl rfl (by kernel_rfl) (by kernel_rfl) (by kernel_rfl) (Or.inl ⟨by rfl, ?y12⟩) hHeld ?r12
  case y12 => (intro w' hSw; (try dsimp only at hSw); go_simp; try with_reducible rfl)
  try simp only [Act.put, List.setIfInBounds_toArray, List.set_cons_zero, List.set_cons_succ]
  refine wpAnyH_done (by kernel_rfl) (Only.on ?_) _
  clear hHeld
  go_wp2_with fail
  go_ret
  exact ⟨rfl, HB5.out⟩
open Go.RowKit Go.Shelf
set_option linter.unusedVariables false
set_option linter.unusedSimpArgs false
attribute [local go_sem ↓] Go.wp_at_zero Go.wp_at_succ
set_option maxRecDepth 100000 in
set_option maxHeartbeats 4000000 in
theorem bits_7 (m : Msg) (p : Option Addr) (cap : Nat) (w : World) (hk : m.kind = 7) (hm : MOk m) (hlen : m.bytes.length ≤ 1023) (ha : Arg w p m.bytes.length cap fun i => .int .u8 ((m.bytes.getD i 0 : Nat) : Int)) :
    Calls Try.prog 53 #[.agg (msgC m (.slice p m.bytes.length cap))] w fun e w' => e = .returned (.string (txt (carr m).enc)) ∧ Below w.heap.size w w' := by
  have hcm : msgC m (.slice p m.bytes.length cap) = #[.int .i64 7, .int .u16 m.seq, .int .u16 m.cmd.seq, .int .u8 m.cmd.but, .int .i8 m.cmd.dx, .int .i8 m.cmd.dy, .int .i64 m.cmd.tk, .int .u16 m.prov, .int .i64 m.id, .int .i64 m.shot, .int .i64 m.dir.x, .int .i64 m.dir.y, .int .i64 m.dir.z, .int .i64 m.why, .int .i64 m.pos.x, .int .i64 m.pos.y, .int .i64 m.pos.z, .int .i64 m.vel.x, .int .i64 m.vel.y, .int .i64 m.vel.z, .int .u32 m.tick, .int .u32 m.base, .slice p m.bytes.length cap] := by unfold msgC; rw [hk]
  rw [hcm, enc_7 hk, hk]
  clear hcm
  have t0 := fun u => textL 7 4 4 rfl (by decide) u
  have t1 := fun u => textL m.prov 16 16 rfl (by decide) u
  have t2 := fun u => textL m.id 31 31 rfl (by decide) u
  obtain ⟨X0, hX0⟩ : ∃ X, bitsK 7 4 = X := ⟨_, rfl⟩
  have l0 : X0.length ≤ 4 := by rw [← hX0, bitsK_length]; exact Nat.le_refl _
  obtain ⟨X1, hX1⟩ : ∃ X, bitsK m.prov 16 = X := ⟨_, rfl⟩
  have l1 : X1.length ≤ 16 := by rw [← hX1, bitsK_length]; exact Nat.le_refl _
  obtain ⟨X2, hX2⟩ : ∃ X, bitsK m.id 31 = X := ⟨_, rfl⟩
  have l2 : X2.length ≤ 31 := by rw [← hX2, bitsK_length]; exact Nat.le_refl _
  rw [hX0] at t0
  rw [hX1] at t1
  rw [hX2] at t2
  rw [hX0, hX1, hX2]
  simp only [← List.append_assoc]
  obtain ⟨a0, hA0⟩ : ∃ s, txt X0 = s := ⟨_, rfl⟩
  rw [hA0] at t0
  have j1 := txt_append (X0) X1
  have s1 := txt_size (X0)
  have r1 := txt_size X1
  try simp only [List.length_append] at s1
  obtain ⟨b1, hb1⟩ : ∃ s, txt X1 = s := ⟨_, rfl⟩
  rw [hb1] at j1 r1 t1
  rw [hA0] at j1 s1
  obtain ⟨a1, hA1⟩ : ∃ s, txt (X0 ++ X1) = s := ⟨_, rfl⟩
  rw [hA1] at j1
  have z1 : ¬ 9223372036854775807 < a0.size + b1.size := by omega
  have j2 := txt_append (X0 ++ X1) X2
  have s2 := txt_size (X0 ++ X1)
  have r2 := txt_size X2
  try simp only [List.length_append] at s2
  obtain ⟨b2, hb2⟩ : ∃ s, txt X2 = s := ⟨_, rfl⟩
  rw [hb2] at j2 r2 t2
  rw [hA1] at j2 s2
  obtain ⟨a2, hA2⟩ : ∃ s, txt (X0 ++ X1 ++ X2) = s := ⟨_, rfl⟩
  rw [hA2] at j2
  have z2 : ¬ 9223372036854775807 < a1.size + b2.size := by omega
  rw [hA2]
  clear hA0 s1 r1 hb1 hA1 s2 r2 hb2 hA2 hX0 l0 hX1 l1 hX2 l2
  have hb0 : Below w.heap.size w (w.alloc (.cells #[.int .i64 7, .int .u16 m.seq, .int .u16 m.cmd.seq, .int .u8 m.cmd.but, .int .i8 m.cmd.dx, .int .i8 m.cmd.dy, .int .i64 m.cmd.tk, .int .u16 m.prov, .int .i64 m.id, .int .i64 m.shot, .int .i64 m.dir.x, .int .i64 m.dir.y, .int .i64 m.dir.z, .int .i64 m.why, .int .i64 m.pos.x, .int .i64 m.pos.y, .int .i64 m.pos.z, .int .i64 m.vel.x, .int .i64 m.vel.y, .int .i64 m.vel.z, .int .u32 m.tick, .int .u32 m.base, .slice p m.bytes.length cap] 40)) := (Below.refl _ _).alloc (Nat.le_refl _) _
  have A := Bq.new w 40 #[.int .i64 7, .int .u16 m.seq, .int .u16 m.cmd.seq, .int .u8 m.cmd.but, .int .i8 m.cmd.dx, .int .i8 m.cmd.dy, .int .i64 m.cmd.tk, .int .u16 m.prov, .int .i64 m.id, .int .i64 m.shot, .int .i64 m.dir.x, .int .i64 m.dir.y, .int .i64 m.dir.z, .int .i64 m.why, .int .i64 m.pos.x, .int .i64 m.pos.y, .int .i64 m.pos.z, .int .i64 m.vel.x, .int .i64 m.vel.y, .int .i64 m.vel.z, .int .u32 m.tick, .int .u32 m.base, .slice p m.bytes.length cap]
  have HB0 := hid hb0
  have HA0 := hid A
  have q0 := A.cell (i := 0) rfl
  clear hb0 A ha hm hk hlen
  go_enter Try.func53, Try.ntmps53
  go_wp2_with fail
  refine (t0 _).mono ?_
  rintro e u1 ⟨rfl, hb1⟩
  dsimp only
  have HB1 := hid (btrans HB0.out hb1)
  have HA1 := hid (HA0.out.below hb1)
  have q7 := HA1.out.cell (i := 7) rfl
  clear q0 hb1 HB0 HA0 t0
  go_wp2_with fail
  refine (t1 _).mono ?_
  rintro e u2 ⟨rfl, hb2⟩
  dsimp only
  have HB2 := hid (btrans HB1.out hb2)
  have HA2 := hid (HA1.out.below hb2)
  have q0 := HA2.out.cell (i := 0) rfl
  clear q7 hb2 HB1 HA1 t1
  have q8 := HA2.out.cell (i := 8) rfl
  go_wp2_with fail
  refine (t2 _).mono ?_
  rintro e u3 ⟨rfl, hb3⟩
  dsimp only
  have HB3 := hid (btrans HB2.out hb3)
  clear q8 q0 hb3 HB2 HA2 t2
  go_wp2_with fail
  go_ret
  exact ⟨rfl, HB3.out⟩
open Go.RowKit Go.Shelf
set_option linter.unusedVariables false
set_option linter.unusedSimpArgs false
attribute [local go_sem ↓] Go.wp_at_zero Go.wp_at_succ
set_option maxRecDepth 100000 in
set_option maxHeartbeats 4000000 in
theorem bits_8 (m : Msg) (p : Option Addr) (cap : Nat) (w : World) (hk : m.kind = 8) (hm : MOk m) (hlen : m.bytes.length ≤ 1023) (ha : Arg w p m.bytes.length cap fun i => .int .u8 ((m.bytes.getD i 0 : Nat) : Int)) :
    Calls Try.prog 53 #[.agg (msgC m (.slice p m.bytes.length cap))] w fun e w' => e = .returned (.string (txt (carr m).enc)) ∧ Below w.heap.size w w' := by
  have hcm : msgC m (.slice p m.bytes.length cap) = #[.int .i64 8, .int .u16 m.seq, .int .u16 m.cmd.seq, .int .u8 m.cmd.but, .int .i8 m.cmd.dx, .int .i8 m.cmd.dy, .int .i64 m.cmd.tk, .int .u16 m.prov, .int .i64 m.id, .int .i64 m.shot, .int .i64 m.dir.x, .int .i64 m.dir.y, .int .i64 m.dir.z, .int .i64 m.why, .int .i64 m.pos.x, .int .i64 m.pos.y, .int .i64 m.pos.z, .int .i64 m.vel.x, .int .i64 m.vel.y, .int .i64 m.vel.z, .int .u32 m.tick, .int .u32 m.base, .slice p m.bytes.length cap] := by unfold msgC; rw [hk]
  rw [hcm, enc_8 hk, hk]
  clear hcm
  have t0 := fun u => textL 8 4 4 rfl (by decide) u
  have t1 := fun u => textL m.prov 16 16 rfl (by decide) u
  have t2 := fun u => textL m.why 4 4 rfl (by decide) u
  obtain ⟨X0, hX0⟩ : ∃ X, bitsK 8 4 = X := ⟨_, rfl⟩
  have l0 : X0.length ≤ 4 := by rw [← hX0, bitsK_length]; exact Nat.le_refl _
  obtain ⟨X1, hX1⟩ : ∃ X, bitsK m.prov 16 = X := ⟨_, rfl⟩
  have l1 : X1.length ≤ 16 := by rw [← hX1, bitsK_length]; exact Nat.le_refl _
  obtain ⟨X2, hX2⟩ : ∃ X, bitsK m.why 4 = X := ⟨_, rfl⟩
  have l2 : X2.length ≤ 4 := by rw [← hX2, bitsK_length]; exact Nat.le_refl _
  rw [hX0] at t0
  rw [hX1] at t1
  rw [hX2] at t2
  rw [hX0, hX1, hX2]
  simp only [← List.append_assoc]
  obtain ⟨a0, hA0⟩ : ∃ s, txt X0 = s := ⟨_, rfl⟩
  rw [hA0] at t0
  have j1 := txt_append (X0) X1
  have s1 := txt_size (X0)
  have r1 := txt_size X1
  try simp only [List.length_append] at s1
  obtain ⟨b1, hb1⟩ : ∃ s, txt X1 = s := ⟨_, rfl⟩
  rw [hb1] at j1 r1 t1
  rw [hA0] at j1 s1
  obtain ⟨a1, hA1⟩ : ∃ s, txt (X0 ++ X1) = s := ⟨_, rfl⟩
  rw [hA1] at j1
  have z1 : ¬ 9223372036854775807 < a0.size + b1.size := by omega
  have j2 := txt_append (X0 ++ X1) X2
  have s2 := txt_size (X0 ++ X1)
  have r2 := txt_size X2
  try simp only [List.length_append] at s2
  obtain ⟨b2, hb2⟩ : ∃ s, txt X2 = s := ⟨_, rfl⟩
  rw [hb2] at j2 r2 t2
  rw [hA1] at j2 s2
  obtain ⟨a2, hA2⟩ : ∃ s, txt (X0 ++ X1 ++ X2) = s := ⟨_, rfl⟩
  rw [hA2] at j2
  have z2 : ¬ 9223372036854775807 < a1.size + b2.size := by omega
  rw [hA2]
  clear hA0 s1 r1 hb1 hA1 s2 r2 hb2 hA2 hX0 l0 hX1 l1 hX2 l2
  have hb0 : Below w.heap.size w (w.alloc (.cells #[.int .i64 8, .int .u16 m.seq, .int .u16 m.cmd.seq, .int .u8 m.cmd.but, .int .i8 m.cmd.dx, .int .i8 m.cmd.dy, .int .i64 m.cmd.tk, .int .u16 m.prov, .int .i64 m.id, .int .i64 m.shot, .int .i64 m.dir.x, .int .i64 m.dir.y, .int .i64 m.dir.z, .int .i64 m.why, .int .i64 m.pos.x, .int .i64 m.pos.y, .int .i64 m.pos.z, .int .i64 m.vel.x, .int .i64 m.vel.y, .int .i64 m.vel.z, .int .u32 m.tick, .int .u32 m.base, .slice p m.bytes.length cap] 40)) := (Below.refl _ _).alloc (Nat.le_refl _) _
  have A := Bq.new w 40 #[.int .i64 8, .int .u16 m.seq, .int .u16 m.cmd.seq, .int .u8 m.cmd.but, .int .i8 m.cmd.dx, .int .i8 m.cmd.dy, .int .i64 m.cmd.tk, .int .u16 m.prov, .int .i64 m.id, .int .i64 m.shot, .int .i64 m.dir.x, .int .i64 m.dir.y, .int .i64 m.dir.z, .int .i64 m.why, .int .i64 m.pos.x, .int .i64 m.pos.y, .int .i64 m.pos.z, .int .i64 m.vel.x, .int .i64 m.vel.y, .int .i64 m.vel.z, .int .u32 m.tick, .int .u32 m.base, .slice p m.bytes.length cap]
  have HB0 := hid hb0
  have HA0 := hid A
  have q0 := A.cell (i := 0) rfl
  clear hb0 A ha hm hk hlen
  go_enter Try.func53, Try.ntmps53
  go_wp2_with fail
  refine (t0 _).mono ?_
  rintro e u1 ⟨rfl, hb1⟩
  dsimp only
  have HB1 := hid (btrans HB0.out hb1)
  have HA1 := hid (HA0.out.below hb1)
  have q7 := HA1.out.cell (i := 7) rfl
  clear q0 hb1 HB0 HA0 t0
  go_wp2_with fail
  refine (t1 _).mono ?_
  rintro e u2 ⟨rfl, hb2⟩
  dsimp only
  have HB2 := hid (btrans HB1.out hb2)
  have HA2 := hid (HA1.out.below hb2)
  have q0 := HA2.out.cell (i := 0) rfl
  clear q7 hb2 HB1 HA1 t1
  have q13 := HA2.out.cell (i := 13) rfl
  go_wp2_with fail
  refine (t2 _).mono ?_
  rintro e u3 ⟨rfl, hb3⟩
  dsimp only
  have HB3 := hid (btrans HB2.out hb3)
  clear q13 q0 hb3 HB2 HA2 t2
  go_wp2_with fail
  go_ret
  exact ⟨rfl, HB3.out⟩
open Go.RowKit Go.Shelf
set_option linter.unusedVariables false
set_option linter.unusedSimpArgs false
attribute [local go_sem ↓] Go.wp_at_zero Go.wp_at_succ
set_option maxRecDepth 100000 in
set_option maxHeartbeats 4000000 in
theorem bits_9 (m : Msg) (p : Option Addr) (cap : Nat) (w : World) (hk : m.kind = 9) (hm : MOk m) (hlen : m.bytes.length ≤ 1023) (ha : Arg w p m.bytes.length cap fun i => .int .u8 ((m.bytes.getD i 0 : Nat) : Int)) :
    Calls Try.prog 53 #[.agg (msgC m (.slice p m.bytes.length cap))] w fun e w' => e = .returned (.string (txt (carr m).enc)) ∧ Below w.heap.size w w' := by
  have hcm : msgC m (.slice p m.bytes.length cap) = #[.int .i64 9, .int .u16 m.seq, .int .u16 m.cmd.seq, .int .u8 m.cmd.but, .int .i8 m.cmd.dx, .int .i8 m.cmd.dy, .int .i64 m.cmd.tk, .int .u16 m.prov, .int .i64 m.id, .int .i64 m.shot, .int .i64 m.dir.x, .int .i64 m.dir.y, .int .i64 m.dir.z, .int .i64 m.why, .int .i64 m.pos.x, .int .i64 m.pos.y, .int .i64 m.pos.z, .int .i64 m.vel.x, .int .i64 m.vel.y, .int .i64 m.vel.z, .int .u32 m.tick, .int .u32 m.base, .slice p m.bytes.length cap] := by unfold msgC; rw [hk]
  rw [hcm, enc_9 hk hm.byte, hk]
  clear hcm
  have t0 := fun u => textL 9 4 4 rfl (by decide) u
  have t1 := fun u => textL m.tick 32 32 rfl (by decide) u
  have t2 := fun u => textL m.base 32 32 rfl (by decide) u
  have t3 := fun u => textL ((m.bytes.length : Nat) : Int) 10 10 rfl (by decide) u
  have t4 := fun u => refOf m.bytes u hm.byte (by omega)
  have tp := fun u => textL m.prov 16 16 rfl (by decide) u
  obtain ⟨XP, hXP⟩ : ∃ X, bitsK m.prov 16 = X := ⟨_, rfl⟩
  rw [hXP] at tp
  obtain ⟨X0, hX0⟩ : ∃ X, bitsK 9 4 = X := ⟨_, rfl⟩
  have l0 : X0.length ≤ 4 := by rw [← hX0, bitsK_length]; exact Nat.le_refl _
  obtain ⟨X1, hX1⟩ : ∃ X, bitsK m.tick 32 = X := ⟨_, rfl⟩
  have l1 : X1.length ≤ 32 := by rw [← hX1, bitsK_length]; exact Nat.le_refl _
  obtain ⟨X2, hX2⟩ : ∃ X, bitsK m.base 32 = X := ⟨_, rfl⟩
  have l2 : X2.length ≤ 32 := by rw [← hX2, bitsK_length]; exact Nat.le_refl _
  obtain ⟨X3, hX3⟩ : ∃ X, bitsK ((m.bytes.length : Nat) : Int) 10 = X := ⟨_, rfl⟩
  have l3 : X3.length ≤ 10 := by rw [← hX3, bitsK_length]; exact Nat.le_refl _
  obtain ⟨X4, hX4⟩ : ∃ X, unpack m.bytes = X := ⟨_, rfl⟩
  have l4 : X4.length ≤ 8184 := by rw [← hX4, unpack_length]; omega
  rw [hX0] at t0
  rw [hX1] at t1
  rw [hX2] at t2
  rw [hX3] at t3
  rw [hX4] at t4
  rw [hX0, hX1, hX2, hX3, hX4]
  simp only [← List.append_assoc]
  obtain ⟨a0, hA0⟩ : ∃ s, txt X0 = s := ⟨_, rfl⟩
  rw [hA0] at t0
  have j1 := txt_append (X0) X1
  have s1 := txt_size (X0)
  have r1 := txt_size X1
  try simp only [List.length_append] at s1
  obtain ⟨b1, hb1⟩ : ∃ s, txt X1 = s := ⟨_, rfl⟩
  rw [hb1] at j1 r1 t1
  rw [hA0] at j1 s1
  obtain ⟨a1, hA1⟩ : ∃ s, txt (X0 ++ X1) = s := ⟨_, rfl⟩
  rw [hA1] at j1
  have z1 : ¬ 9223372036854775807 < a0.size + b1.size := by omega
  have j2 := txt_append (X0 ++ X1) X2
  have s2 := txt_size (X0 ++ X1)
  have r2 := txt_size X2
  try simp only [List.length_append] at s2
  obtain ⟨b2, hb2⟩ : ∃ s, txt X2 = s := ⟨_, rfl⟩
  rw [hb2] at j2 r2 t2
  rw [hA1] at j2 s2
  obtain ⟨a2, hA2⟩ : ∃ s, txt (X0 ++ X1 ++ X2) = s := ⟨_, rfl⟩
  rw [hA2] at j2
  have z2 : ¬ 9223372036854775807 < a1.size + b2.size := by omega
  have j3 := txt_append (X0 ++ X1 ++ X2) X3
  have s3 := txt_size (X0 ++ X1 ++ X2)
  have r3 := txt_size X3
  try simp only [List.length_append] at s3
  obtain ⟨b3, hb3⟩ : ∃ s, txt X3 = s := ⟨_, rfl⟩
  rw [hb3] at j3 r3 t3
  rw [hA2] at j3 s3
  obtain ⟨a3, hA3⟩ : ∃ s, txt (X0 ++ X1 ++ X2 ++ X3) = s := ⟨_, rfl⟩
  rw [hA3] at j3
  have z3 : ¬ 9223372036854775807 < a2.size + b3.size := by omega
  have j4 := txt_append (X0 ++ X1 ++ X2 ++ X3) X4
  have s4 := txt_size (X0 ++ X1 ++ X2 ++ X3)
  have r4 := txt_size X4
  try simp only [List.length_append] at s4
  obtain ⟨b4, hb4⟩ : ∃ s, txt X4 = s := ⟨_, rfl⟩
  rw [hb4] at j4 r4 t4
  rw [hA3] at j4 s4
  obtain ⟨a4, hA4⟩ : ∃ s, txt (X0 ++ X1 ++ X2 ++ X3 ++ X4) = s := ⟨_, rfl⟩
  rw [hA4] at j4
  have z4 : ¬ 9223372036854775807 < a3.size + b4.size := by omega
  rw [hA4]
  clear hA0 s1 r1 hb1 hA1 s2 r2 hb2 hA2 s3 r3 hb3 hA3 s4 r4 hb4 hA4 hX0 l0 hX1 l1 hX2 l2 hX3 l3 hX4 l4 hXP
  have hb0 : Below w.heap.size w (w.alloc (.cells #[.int .i64 9, .int .u16 m.seq, .int .u16 m.cmd.seq, .int .u8 m.cmd.but, .int .i8 m.cmd.dx, .int .i8 m.cmd.dy, .int .i64 m.cmd.tk, .int .u16 m.prov, .int .i64 m.id, .int .i64 m.shot, .int .i64 m.dir.x, .int .i64 m.dir.y, .int .i64 m.dir.z, .int .i64 m.why, .int .i64 m.pos.x, .int .i64 m.pos.y, .int .i64 m.pos.z, .int .i64 m.vel.x, .int .i64 m.vel.y, .int .i64 m.vel.z, .int .u32 m.tick, .int .u32 m.base, .slice p m.bytes.length cap] 40)) := (Below.refl _ _).alloc (Nat.le_refl _) _
  have A := Bq.new w 40 #[.int .i64 9, .int .u16 m.seq, .int .u16 m.cmd.seq, .int .u8 m.cmd.but, .int .i8 m.cmd.dx, .int .i8 m.cmd.dy, .int .i64 m.cmd.tk, .int .u16 m.prov, .int .i64 m.id, .int .i64 m.shot, .int .i64 m.dir.x, .int .i64 m.dir.y, .int .i64 m.dir.z, .int .i64 m.why, .int .i64 m.pos.x, .int .i64 m.pos.y, .int .i64 m.pos.z, .int .i64 m.vel.x, .int .i64 m.vel.y, .int .i64 m.vel.z, .int .u32 m.tick, .int .u32 m.base, .slice p m.bytes.length cap]
  have HB0 := hid hb0
  have HA0 := hid A
  have q0 := A.cell (i := 0) rfl
  have HAr := hid ha
  have hbl : (m.bytes.length : Int) ≤ 1023 := by omega
  clear hb0 A ha hm hk hlen
  go_enter Try.func53, Try.ntmps53
  go_wp2_with fail
  refine (t0 _).mono ?_
  rintro e u1 ⟨rfl, hb1⟩
  dsimp only
  have HB1 := hid (btrans HB0.out hb1)
  have HA1 := hid (HA0.out.below hb1)
  have q7 := HA1.out.cell (i := 7) rfl
  clear q0 hb1 HB0 HA0 t0
  go_wp2_with fail
  refine (tp _).mono ?_
  rintro e u2 ⟨rfl, hb2⟩
  dsimp only
  have HB2 := hid (btrans HB1.out hb2)
  have HA2 := hid (HA1.out.below hb2)
  have q0 := HA2.out.cell (i := 0) rfl
  clear q7 hb2 HB1 HA1 tp
  go_wp2_with fail
  clear q0
  have hBd := hid (HB2.out.trans (below_drewN _ 1))
  have hAd := hid (HA2.out.below (below_drewN _ 1))
  refine region_held (fun u => u.cell? ⟨w.heap.size, 20, none⟩ = some (.int .u32 m.tick) ∧ u.cell? ⟨w.heap.size, 21, none⟩ = some (.int .u32 m.base) ∧ u.cell? ⟨w.heap.size, 22, none⟩ = some (.slice p m.bytes.length cap)) 18 rfl (by kernel_rfl) ⟨hAd.out.cell (i := 20) rfl, hAd.out.cell (i := 21) rfl, hAd.out.cell (i := 22) rfl⟩ ?_
  intro hHeld
  refine takeO 0 (some 108) (v := ?v1) rfl rfl (by kernel_rfl) (by kernel_rfl) (by kernel_rfl) (Or.inl ⟨by rfl, ?y1⟩) hHeld ?r1
  case y1 => (intro w' hSw; (try dsimp only at hSw); go_simp; try with_reducible rfl)
  try simp only [Act.put, List.setIfInBounds_toArray, List.set_cons_zero, List.set_cons_succ]
  refine takeO 1 (some 109) (v := ?v2) rfl rfl (by kernel_rfl) (by kernel_rfl) (by kernel_rfl) (Or.inl ⟨by rfl, ?y2⟩) hHeld ?r2
  case y2 => (intro w' hSw; (try dsimp only at hSw); go_simp; try with_reducible rfl)
  try simp only [Act.put, List.setIfInBounds_toArray, List.set_cons_zero, List.set_cons_succ]
  refine takeO 2 (some 110) (v := ?v3) rfl rfl (by kernel_rfl) (by kernel_rfl) (by kernel_rfl) (Or.inl ⟨by rfl, ?y3⟩) hHeld ?r3
  case y3 => (intro w' hSw; (try dsimp only at hSw); go_simp; try with_reducible rfl)
  try simp only [Act.put, List.setIfInBounds_toArray, List.set_cons_zero, List.set_cons_succ]
  refine takeO 3 (some 111) (v := ?v4) rfl rfl (by kernel_rfl) (by kernel_rfl) (by kernel_rfl) (Or.inl ⟨by rfl, ?y4⟩) hHeld ?r4
  case y4 => (intro w' hSw; (try dsimp only at hSw); go_simp; try with_reducible rfl)
  try simp only [Act.put, List.setIfInBounds_toArray, List.set_cons_zero, List.set_cons_succ]
  refine takeO 6 (some 114) (v := ?v5) rfl rfl (by kernel_rfl) (by kernel_rfl) (by kernel_rfl) (Or.inl ⟨by rfl, ?y5⟩) hHeld ?r5
  case y5 => (intro w' hSw; (try dsimp only at hSw); go_simp; try with_reducible rfl)
  try simp only [Act.put, List.setIfInBounds_toArray, List.set_cons_zero, List.set_cons_succ]
  refine takeO 7 (some 115) (v := ?v6) rfl rfl (by kernel_rfl) (by kernel_rfl) (by kernel_rfl) (Or.inl ⟨by rfl, ?y6⟩) hHeld ?r6
  case y6 => (intro w' hSw; (try dsimp only at hSw); go_simp; try with_reducible rfl)
  try simp only [Act.put, List.setIfInBounds_toArray, List.set_cons_zero, List.set_cons_succ]
  refine takeO 8 (some 116) (v := ?v7) rfl rfl (by kernel_rfl) (by kernel_rfl) (by kernel_rfl) (Or.inl ⟨by rfl, ?y7⟩) hHeld ?r7
  case y7 => (intro w' hSw; (try dsimp only at hSw); go_simp; try with_reducible rfl)
  try simp only [Act.put, List.setIfInBounds_toArray, List.set_cons_zero, List.set_cons_succ]
  refine takeO 11 (some 119) (v := ?v8) rfl rfl (by kernel_rfl) (by kernel_rfl) (by kernel_rfl) (Or.inl ⟨by rfl, ?y8⟩) hHeld ?r8
  case y8 => (intro w' hSw; (try dsimp only at hSw); go_simp; try with_reducible rfl)
  try simp only [Act.put, List.setIfInBounds_toArray, List.set_cons_zero, List.set_cons_succ]
  refine takeO 12 (some 120) (v := ?v9) rfl rfl (by kernel_rfl) (by kernel_rfl) (by kernel_rfl) (Or.inl ⟨by rfl, ?y9⟩) hHeld ?r9
  case y9 => (intro w' hSw; (try dsimp only at hSw); go_simp; try with_reducible rfl)
  try simp only [Act.put, List.setIfInBounds_toArray, List.set_cons_zero, List.set_cons_succ]
  refine takeO 13 (some 121) (v := ?v10) rfl rfl (by kernel_rfl) (by kernel_rfl) (by kernel_rfl) (Or.inl ⟨by rfl, ?y10⟩) hHeld ?r10
  case y10 => (intro w' hSw; (try dsimp only at hSw); go_simp; try with_reducible rfl)
  try simp only [Act.put, List.setIfInBounds_toArray, List.set_cons_zero, List.set_cons_succ]
  refine takeO 14 (some 122) (v := ?v11) rfl rfl (by kernel_rfl) (by kernel_rfl) (by kernel_rfl) (Or.inl ⟨by rfl, ?y11⟩) hHeld ?r11
  case y11 => (intro w' hSw; (try dsimp only at hSw); go_simp; try with_reducible rfl)
  try simp only [Act.put, List.setIfInBounds_toArray, List.set_cons_zero, List.set_cons_succ]
  refine wpAnyH_ready (rs := [4]) (by kernel_rfl) (by simp) ?_
  refine AllReadyH.cons rfl (fun K hK => ?_) AllReadyH.nil
  go_simp
  refine (t1 _).mono ?_
  rintro e u3 ⟨rfl, hb3⟩
  dsimp only
  have HB3 := hid (btrans hBd.out hb3)
  have HA3 := hid (hAd.out.below hb3)
  refine hK.out _ _ ⟨HA3.out.cell (i := 20) rfl, HA3.out.cell (i := 21) rfl, HA3.out.cell (i := 22) rfl⟩ (fun hHeld => ?_)
  clear hK K hb3 hBd hAd HB2 HA2
  refine takeO 5 (some 113) (v := ?v12) rfl rfl (by kernel_rfl) (by kernel_rfl) (by kernel_rfl) (Or.inl ⟨by rfl, ?y12⟩) hHeld ?r12
  case y12 => (intro w' hSw; (try dsimp only at hSw); go_simp; try with_reducible rfl)
  try simp only [Act.put, List.setIfInBounds_toArray, List.set_cons_zero, List.set_cons_succ]
  refine wpAnyH_ready (rs := [9]) (by kernel_rfl) (by simp) ?_
  refine AllReadyH.cons rfl (fun K hK => ?_) AllReadyH.nil
  go_simp
  refine (t2 _).mono ?_
  rintro e u4 ⟨rfl, hb4⟩
  dsimp only
  have HB4 := hid (btrans HB3.out hb4)
  have HA4 := hid (HA3.out.below hb4)
  refine hK.out _ _ ⟨HA4.out.cell (i := 20) rfl, HA4.out.cell (i := 21) rfl, HA4.out.cell (i := 22) rfl⟩ (fun hHeld => ?_)
  clear hK K hb4 HB3 HA3
  refine takeO 10 (some 118) (v := ?v13) rfl rfl (by kernel_rfl) (by kernel_rfl) (by kernel_rfl) (Or.inl ⟨by rfl, ?y13⟩) hHeld ?r13
  case y13 => (intro w' hSw; (try dsimp only at hSw); go_simp; try with_reducible rfl)
  try simp only [Act.put, List.setIfInBounds_toArray, List.set_cons_zero, List.set_cons_succ]
  refine wpAnyH_ready (rs := [15]) (by kernel_rfl) (by simp) ?_
  refine AllReadyH.cons rfl (fun K hK => ?_) AllReadyH.nil
  go_simp
  refine (t3 _).mono ?_
  rintro e u5 ⟨rfl, hb5⟩
  dsimp only
  have HB5 := hid (btrans HB4.out hb5)
  have HA5 := hid (HA4.out.below hb5)
  refine hK.out _ _ ⟨HA5.out.cell (i := 20) rfl, HA5.out.cell (i := 21) rfl, HA5.out.cell (i := 22) rfl⟩ (fun hHeld => ?_)
  clear hK K hb5 HB4 HA4
  refine takeO 16 (some 124) (v := ?v14) rfl rfl (by kernel_rfl) (by kernel_rfl) (by kernel_rfl) (Or.inl ⟨by rfl, ?y14⟩) hHeld ?r14
  case y14 => (intro w' hSw; (try dsimp only at hSw); go_simp; try with_reducible rfl)
  try simp only [Act.put, List.setIfInBounds_toArray, List.set_cons_zero, List.set_cons_succ]
  refine takeO 17 (some 3) (v := ?v15) rfl rfl (by kernel_rfl) (by kernel_rfl) (by kernel_rfl) (Or.inl ⟨by rfl, ?y15⟩) hHeld ?r15
  case y15 => (intro w' hSw; (try dsimp only at hSw); go_simp; try with_reducible rfl)
  try simp only [Act.put, List.setIfInBounds_toArray, List.set_cons_zero, List.set_cons_succ]
  refine wpAnyH_done (by kernel_rfl) (Only.on ?_) _
  clear hHeld
  have q22 := HA5.out.cell (i := 22) rfl
  have cv := conv_arg (HAr.out.keep HB5.out)
  clear HAr
  go_wp2_with fail
  refine (t4 _).mono ?_
  rintro e u6 ⟨rfl, hb6⟩
  dsimp only
  have HB6 := hid (btrans HB5.out hb6)
  clear q22 cv hb6 HB5 HA5 t4
  go_wp2_with fail
  go_ret
  exact ⟨rfl, HB6.out⟩
open Go.RowKit Go.Shelf
set_option linter.unusedVariables false

theorem refBitsF (m : Msg) (p : Option Addr) (cap : Nat) (w : World) (hm : MOk m) (hlen : m.bytes.length ≤ 1023) (ha : Arg w p m.bytes.length cap fun i => .int .u8 ((m.bytes.getD i 0 : Nat) : Int)) :
    Calls Try.prog 53 #[.agg (msgC m (.slice p m.bytes.length cap))] w fun e w' => e = .returned (.string (txt (carr m).enc)) ∧ Below w.heap.size w w' := by
  by_cases k2 : m.kind = 2
  · exact bits_2 m p cap w k2 hm hlen ha
  by_cases k3 : m.kind = 3
  · exact bits_3 m p cap w k3 hm hlen ha
  by_cases k5 : m.kind = 5
  · exact bits_5 m p cap w k5 hm hlen ha
  by_cases k6 : m.kind = 6
  · exact bits_6 m p cap w k6 hm hlen ha
  by_cases k7 : m.kind = 7
  · exact bits_7 m p cap w k7 hm hlen ha
  by_cases k8 : m.kind = 8
  · exact bits_8 m p cap w k8 hm hlen ha
  by_cases k9 : m.kind = 9
  · exact bits_9 m p cap w k9 hm hlen ha
  exact bits_0 m p cap w k2 k3 k5 k6 k7 k8 k9 hm hlen ha
open Go.RowKit Go.Shelf
set_option linter.unusedVariables false
set_option linter.unusedSimpArgs false
attribute [local go_sem ↓] Go.wp_at_zero Go.wp_at_succ
set_option maxRecDepth 100000 in
set_option maxHeartbeats 4000000 in
theorem refWriteF (p : Option Addr) (cap : Nat) (ms : List Msg) (q : Nat → Option Addr × Nat) (w : World) (h : ArgM w p cap ms q) (hr : ms.all rgtB = true) (hl : ms.length ≤ 16) :
    Calls Try.prog 27 #[.slice p ms.length cap] w fun e w' => (∃ ys, e = .returned (.string (str ys)) ∧ ∃ f, Packs ys f (encJ ms ms.length)) ∧ Below w.heap.size w w' := by
  have hle := h.le; have hmost := h.most
  unfold maxLen at hmost
  have hrg : ∀ i, i < ms.length → Rgt (mg ms i) := fun i hi => (rgtB_iff _).1 ((all_mg _ _).1 hr i hi)
  have hby : ∀ m ∈ ms, m.bytes.length ≤ 1023 := fun m hm => ((rgtB_iff m).1 (List.all_eq_true.1 hr m hm)).ok.2
  have hlen := encJ_len ms hby
  have hT := fun u => textL ((ms.length : Nat) : Int) 5 5 rfl (by decide) u
  have he0 : bitsK ((ms.length : Nat) : Int) 5 = encJ ms 0 := by
    unfold encJ
    rw [List.take_zero, List.flatMap_nil, List.append_nil]
    rfl
  rw [he0] at hT
  have hlb : ∀ j, j < ms.length → (encJ ms (j + 1)).length ≤ 200000 := fun j hj => by have := hlen (j + 1); omega
  obtain ⟨n, hn⟩ : ∃ n, ms.length = n := ⟨_, rfl⟩
  have HN := hid hn
  have hBy := fun u => refBytes (encJ ms n) u (by have := hlen n; omega)
  have hn0 : n ≤ 16 := by omega
  have hn1 : (n : Int) ≤ 16 := by omega
  rw [hn] at hT hle ⊢
  rw [wrap_u64 (n := n) (by omega)] at hT
  have HH := hid h; have HRG := hid hrg; have HLB := hid hlb; have HBY := hid hBy
  clear h hr hby hlen he0 hn hrg hlb hBy hl
  go_enter Try.func27, Try.ntmps27
  go_wp2_with fail
  refine (hT _).mono ?_
  rintro e u1 ⟨rfl, hb1⟩
  dsimp only
  have HB1 := hid hb1
  clear hb1 hT
  obtain ⟨t0, ht0⟩ : ∃ t, txt (encJ ms 0) = t := ⟨_, rfl⟩
  rw [ht0]
  have HT0 := hid ht0
  clear ht0
  go_wp2_with fail
  go_loopw [3, 4] (fun s i wr => ∃ (j : Nat), i = .int .i64 (j : Int) ∧ j ≤ n ∧ s = .string (txt (encJ ms j)) ∧ Below w.heap.size w wr) (fun _ i _ => n - (intOf i).toNat)
  case atStart => exact ⟨0, rfl, Nat.zero_le _, by rw [HT0.out], HB1.out⟩
  case round =>
    obtain ⟨j, rfl, hj, rfl, hb⟩ := hrel
    by_cases hlt : j < n
    · have hlt' : j < ms.length := by rw [HN.out]; exact hlt
      have hA := HH.out.keep hb
      obtain ⟨b, o, rfl, hbl, hc⟩ := hA.at hlt'
      have hcj := hc j hlt'
      have hsz : (mgC ms q j).size = 23 := mgC_size ms q j
      have hal := refBitsF (mg ms j) (q j).1 (q j).2 wr (HRG.out j hlt').ok.1 (HRG.out j hlt').ok.2 (hA.bytes j hlt')
      have hm1 : msgC (mg ms j) (.slice (q j).1 (mg ms j).bytes.length (q j).2) = mgC ms q j := rfl
      rw [hm1] at hal
      have hta := txt_append (encJ ms j) (carr (mg ms j)).enc
      have hl2 := HLB.out j hlt'
      rw [encJ_succ ms hlt', List.length_append] at hl2
      rw [← encJ_succ ms hlt'] at hta
      have z1 : ¬ 9223372036854775807 < (txt (encJ ms j)).size + (txt (carr (mg ms j)).enc).size := by rw [txt_size, txt_size]; omega
      obtain ⟨tj, htj⟩ : ∃ t, txt (encJ ms j) = t := ⟨_, rfl⟩
      obtain ⟨tb, htb⟩ : ∃ t, txt (carr (mg ms j)).enc = t := ⟨_, rfl⟩
      obtain ⟨tk, htk⟩ : ∃ t, txt (encJ ms (j + 1)) = t := ⟨_, rfl⟩
      rw [htj, htb] at z1
      rw [htj, htb, htk] at hta
      rw [htb] at hal
      rw [htj]
      generalize mgC ms q j = cs at *
      have HB := hid hb; have HC := hid hcj; have HTK := hid htk
      have i1 : (j : Int) < (n : Int) := by omega
      clear hA hc hcj hb hm1 hl2 htj htb htk HT0 HB1
      go_wp2_with (refine wpList_load_at rfl _ rfl b (o + j * 23) rfl cs hsz HC.out ?_)
      refine hal.mono ?_
      rintro e u3 ⟨rfl, hb3⟩
      dsimp only
      have HB3 := hid (btrans HB.out hb3)
      clear hal hb3 HB HC
      go_wp2_with fail
      go_roundw
      case rel => exact ⟨j + 1, by go_num, by omega, by rw [HTK.out], HB3.out⟩
      case measure => simp [intOf]; omega
    · obtain rfl : j = n := by omega
      obtain ⟨tj, htj⟩ : ∃ t, txt (encJ ms j) = t := ⟨_, rfl⟩
      have hBy := HBY.out wr
      rw [htj] at hBy ⊢
      have HB := hid hb
      have i1 : ¬ (j : Int) < (j : Int) := by omega
      clear hb htj HT0 HB1
      go_wp2_with fail
      refine hBy.mono ?_
      rintro e u3 ⟨⟨ys, rfl, f, hp⟩, hb3⟩
      dsimp only
      have HB3 := hid (btrans HB.out hb3); have HP := hid hp
      clear hBy hb3 hp HB
      go_wp2_with fail
      go_ret
      exact ⟨⟨ys, rfl, f, HP.out⟩, HB3.out⟩
open Go.RowKit Go.Shelf
set_option linter.unusedVariables false
set_option linter.unusedSimpArgs false
attribute [local go_sem ↓] Go.wp_at_zero Go.wp_at_succ

/-- The bytes of what is left of a message. -/
theorem only_arg {w : World} {m : Msg} {p : Option Addr} {cap : Nat} (ha : Arg w p m.bytes.length cap fun i => .int .u8 ((m.bytes.getD i 0 : Nat) : Int)) :
    ∃ (q : Option Addr) (d : Nat), (if m.kind = 9 then Value.slice p m.bytes.length cap else .slice none 0 0) = .slice q (onlyM m).bytes.length d ∧ Arg w q (onlyM m).bytes.length d fun i => .int .u8 (((onlyM m).bytes.getD i 0 : Nat) : Int) := by
  by_cases h9 : m.kind = 9
  · have hb : (onlyM m).bytes = m.bytes := by unfold onlyM; simp [h9]
    rw [if_pos h9, hb]
    exact ⟨p, cap, rfl, ha⟩
  · have hb : (onlyM m).bytes = [] := by unfold onlyM; (repeat' split) <;> first | rfl | (exact absurd (by assumption) h9)
    rw [if_neg h9, hb]
    exact ⟨none, 0, rfl, Nat.le_refl _, by unfold maxLen; omega, .inl rfl⟩
theorem only_byte {m : Msg} (h : ∀ y ∈ m.bytes, y < 256) : ∀ y ∈ (onlyM m).bytes, y < 256 := by
  unfold onlyM
  repeat' split
  all_goals first | exact h | (intro y hy; simp [bare] at hy)
set_option maxRecDepth 100000 in
set_option maxHeartbeats 4000000 in
theorem refRightF (m : Msg) (p : Option Addr) (cap : Nat) (w : World) (hm : MOk m) (ha : Arg w p m.bytes.length cap fun i => .int .u8 ((m.bytes.getD i 0 : Nat) : Int)) :
    Calls Try.prog 17 #[.agg (msgC m (.slice p m.bytes.length cap))] w fun e w' => e = .returned (.bool (rgtB m)) ∧ Below w.heap.size w w' := by
  rw [rgtB_is hm]
  obtain ⟨R, hR⟩ : ∃ R, decide (m = onlyM m ∧ (1 ≤ m.kind ∧ m.kind ≤ 9) ∧ fieldsOk m) = R := ⟨_, rfl⟩
  rw [hR]
  have HR := hid hR
  obtain ⟨bo, hbo⟩ : ∃ bo, decide (m = onlyM m) = bo := ⟨_, rfl⟩
  have HBO := hid hbo
  have hb0 : Below w.heap.size w (w.alloc (.cells (msgC m (.slice p m.bytes.length cap)) 40)) := (Below.refl _ _).alloc (Nat.le_refl _) _
  have hA := Bq.new w 40 (msgC m (.slice p m.bytes.length cap))
  have hon := fun u => refOnlyF m p cap u
  have hsm := fun (u : World) (q : Option Addr) (d : Nat) (h1 : Below w.heap.size w u) (h2 : Arg u q (onlyM m).bytes.length d fun i => .int .u8 (((onlyM m).bytes.getD i 0 : Nat) : Int)) => show Calls Try.prog 29 #[.agg (msgC m (.slice p m.bytes.length cap)), .agg (msgC (onlyM m) (.slice q (onlyM m).bytes.length d))] u (fun e w' => e = .returned (.bool bo) ∧ Below u.heap.size u w') from by rw [← hbo]; exact refSameF (w := u) (a := m) (b := onlyM m) (p := p) (q := q) (c := cap) (d := d) (ha.keep h1) h2 hm.byte (only_byte hm.byte)
  have hag := fun (u : World) (h1 : Below w.heap.size w u) => only_arg (w := u) (m := m) (p := p) (cap := cap) (ha.keep h1)
  obtain ⟨SL, hSL⟩ : ∃ SL, (if m.kind = 9 then Value.slice p m.bytes.length cap else .slice none 0 0) = SL := ⟨_, rfl⟩
  rw [hSL] at hon hag
  obtain ⟨C, hC⟩ : ∃ C, msgC m (.slice p m.bytes.length cap) = C := ⟨_, rfl⟩
  have hsz : C.size = 23 := by rw [← hC]; rfl
  rw [hC] at hb0 hA hon hsm ⊢
  have HC := hid hC
  have HON := hid hon; have HSM := hid hsm; have HAG := hid hag; have HB0 := hid hb0; have HA := hid hA
  have hone : C.all (fun v => v.oneCell') = true := by rw [← hC]; exact one23
  clear hC hon hsm hag hb0 hA ha hSL hR hbo
  go_enter Try.func17, Try.ntmps17
  go_wp2_with fail
  have hBd := hid (HB0.out.trans (below_drewN _ 1))
  have hAd := HA.out.below (below_drewN _ 1)
  refine region_held (fun u => u.heap[w.heap.size]? = some (.cells C 40 (0, 0))) 5 rfl (by kernel_rfl) hAd.obj ?_
  intro hHeld
  refine takeO 0 (some 4) rfl rfl (by kernel_rfl) (by kernel_rfl) (by kernel_rfl) (yields_row (by rfl) rfl rfl (fun _ h => h) hsz) hHeld ?_
  try simp only [Act.put, List.setIfInBounds_toArray, List.set_cons_zero, List.set_cons_succ]
  refine takeO 1 (some 5) rfl rfl (by kernel_rfl) (by kernel_rfl) (by kernel_rfl) (yields_row (by rfl) rfl rfl (fun _ h => h) hsz) hHeld ?_
  try simp only [Act.put, List.setIfInBounds_toArray, List.set_cons_zero, List.set_cons_succ]
  refine wpAnyH_ready (rs := [2]) (by kernel_rfl) (by simp) ?_
  refine AllReadyH.cons rfl (fun K hK => ?_) AllReadyH.nil
  go_simp
  refine (HON.out _).mono ?_
  rintro e u1 ⟨rfl, hb1⟩
  dsimp only
  have hB1 := hid (btrans hBd.out hb1)
  have hA1 := hAd.below hb1
  obtain ⟨q, d, hSL, haq⟩ := HAG.out u1 hB1.out
  have hs2 := HSM.out u1 q d hB1.out haq
  refine hK.out _ _ hA1.obj (fun hHeld => ?_)
  clear hK K hAd
  refine wpAnyH_ready (rs := [3]) (by kernel_rfl) (by simp) ?_
  refine AllReadyH.cons rfl (fun K hK => ?_) AllReadyH.nil
  go_simp
  refine hs2.mono ?_
  rintro e u2 ⟨rfl, hb2⟩
  dsimp only
  have hB2 := hid (btrans hB1.out hb2)
  have hA2 := hA1.below hb2
  refine hK.out _ _ hA2.obj (fun hHeld => ?_)
  clear hK K hA1 hs2
  refine takeO 4 (some 3) (v := ?v1) rfl rfl (by kernel_rfl) (by kernel_rfl) (by kernel_rfl) (Or.inl ⟨by rfl, ?y1⟩) hHeld ?r1
  case y1 => (intro w' hSw; (try dsimp only at hSw); go_simp; try with_reducible rfl)
  try simp only [Act.put, List.setIfInBounds_toArray, List.set_cons_zero, List.set_cons_succ]
  refine wpAnyH_done (by kernel_rfl) (Only.on ?_) _
  clear hHeld hb1 hb2 hSL haq
  have k0 := hA2.cell (i := 0) (v := .int .i64 m.kind) (by rw [← HC.out]; unfold msgC; rfl)
  have HA2 := hid hA2
  clear hA2 HA HB0 HON HSM HAG hBd hB1
  by_cases ho : m = onlyM m
  rotate_left
  · have e1 : R = false := HR.out.symm.trans (decide_eq_false (fun e => ho e.1))
    have e2 : bo = false := HBO.out.symm.trans (decide_eq_false ho)
    subst e1; subst e2
    clear ho
    go_wp2_with fail
    go_ret
    exact ⟨rfl, hB2.out⟩
  have e2 : bo = true := HBO.out.symm.trans (decide_eq_true ho)
  subst e2
  obtain ⟨K, hK⟩ : ∃ K, m.kind = K := ⟨_, rfl⟩
  rw [hK] at k0
  have HKE := hid hK
  by_cases hr1 : K < 1
  · have e1 : R = false := HR.out.symm.trans (decide_eq_false (fun e => by have := e.2.1.1; omega))
    subst e1
    clear ho hK
    go_wp2_with fail
    go_ret
    exact ⟨rfl, hB2.out⟩
  by_cases hr9 : 9 < K
  · have e1 : R = false := HR.out.symm.trans (decide_eq_false (fun e => by have := e.2.1.2; omega))
    subst e1
    clear ho hK
    go_wp2_with fail
    go_ret
    exact ⟨rfl, hB2.out⟩
  have hres : R = decide (fieldsOk m) := HR.out.symm.trans (decide_eq_decide.2 ⟨fun e => e.2.2, fun e => ⟨ho, by omega, e⟩⟩)
  clear ho
  rcases (show K = 1 ∨ K = 2 ∨ K = 3 ∨ K = 4 ∨ K = 5 ∨ K = 6 ∨ K = 7 ∨ K = 8 ∨ K = 9 by omega) with rfl | rfl | rfl | rfl | rfl | rfl | rfl | rfl | rfl
  ·
    have hf : fieldsOk m ↔ True := by unfold fieldsOk; simp only [hK, Int.reduceEq, if_false]
    have HE1 := hid (show R = true from hres.trans (decide_eq_true (hf.2 trivial)))
    clear hres hf hK HR HBO
    go_wp2_with fail
    go_ret
    exact ⟨ret_bool HE1.out.symm, hB2.out⟩
  ·
    have k3 := HA2.out.cell (i := 3) (v := .int .u8 m.cmd.but) (by rw [← HC.out]; unfold msgC; rfl)
    have k6 := HA2.out.cell (i := 6) (v := .int .i64 m.cmd.tk) (by rw [← HC.out]; unfold msgC; rfl)
    have hf : fieldsOk m ↔ (m.cmd.but < 4 ∧ 1 ≤ m.cmd.tk ∧ m.cmd.tk ≤ 8) := by unfold fieldsOk; simp only [hK, Int.reduceEq, if_true, if_false]
    by_cases p1 : m.cmd.but < 4
    by_cases p2 : 1 ≤ m.cmd.tk
    ·
      have HE1 := hid (show R = decide (m.cmd.tk ≤ 8) from hres.trans (decide_eq_decide.2 ⟨fun e => (hf.1 e).2.2, fun e => hf.2 ⟨p1, p2, e⟩⟩))
      clear hres hf hK HR HBO
      go_wp2_with fail
      go_ret
      exact ⟨ret_bool HE1.out.symm, hB2.out⟩
    ·
      have HE1 := hid (show R = false from hres.trans (decide_eq_false (fun e => p2 (hf.1 e).2.1)))
      clear hres hf hK HR HBO
      go_wp2_with fail
      go_ret
      exact ⟨ret_bool HE1.out.symm, hB2.out⟩
    ·
      have HE1 := hid (show R = false from hres.trans (decide_eq_false (fun e => p1 (hf.1 e).1)))
      clear hres hf hK HR HBO
      go_wp2_with fail
      go_ret
      exact ⟨ret_bool HE1.out.symm, hB2.out⟩
  ·
    have k9 := HA2.out.cell (i := 9) (v := .int .i64 m.shot) (by rw [← HC.out]; unfold msgC; rfl)
    have k10 := HA2.out.cell (i := 10) (v := .int .i64 m.dir.x) (by rw [← HC.out]; unfold msgC; rfl)
    have k11 := HA2.out.cell (i := 11) (v := .int .i64 m.dir.y) (by rw [← HC.out]; unfold msgC; rfl)
    have k12 := HA2.out.cell (i := 12) (v := .int .i64 m.dir.z) (by rw [← HC.out]; unfold msgC; rfl)
    have hf : fieldsOk m ↔ ((m.shot = 0 ∨ m.shot = 1) ∧ m.dir.in (-65536) 65536) := by unfold fieldsOk; simp only [hK, Int.reduceEq, if_true, if_false]
    have hfar := fun u => farF m.dir (-65536) 65536 u
    obtain ⟨x, hx⟩ : ∃ x, m.shot = x := ⟨_, rfl⟩
    rw [hx] at k9 hf
    rcases (show x = 0 ∨ x = 1 ∨ (x ≠ 0 ∧ x ≠ 1) by omega) with rfl | rfl | ⟨p1, p2⟩
    ·
      have HE1 := hid (show R = decide (m.dir.in (-65536) 65536) from hres.trans (decide_eq_decide.2 ⟨fun e => (hf.1 e).2, fun e => hf.2 ⟨by omega, e⟩⟩))
      clear hres hf hK HR HBO
      go_wp2_with fail
      refine (hfar _).mono ?_; rintro e u3 ⟨rfl, hb3⟩
      have hB3 := hid (btrans hB2.out hb3)
      clear hb3
      go_wp2_with fail
      go_ret
      exact ⟨ret_bool HE1.out.symm, hB3.out⟩
    ·
      have HE1 := hid (show R = decide (m.dir.in (-65536) 65536) from hres.trans (decide_eq_decide.2 ⟨fun e => (hf.1 e).2, fun e => hf.2 ⟨by omega, e⟩⟩))
      clear hres hf hK HR HBO
      go_wp2_with fail
      refine (hfar _).mono ?_; rintro e u3 ⟨rfl, hb3⟩
      have hB3 := hid (btrans hB2.out hb3)
      clear hb3
      go_wp2_with fail
      go_ret
      exact ⟨ret_bool HE1.out.symm, hB3.out⟩
    ·
      have j0 : (x == 0) = false := beq_eq_false_iff_ne.2 p1
      have j1 : (x == 1) = false := beq_eq_false_iff_ne.2 p2
      have HE1 := hid (show R = false from hres.trans (decide_eq_false (fun e => by have := (hf.1 e).1; omega)))
      clear hres hf hK HR HBO
      go_wp2_with fail
      go_ret
      exact ⟨ret_bool HE1.out.symm, hB2.out⟩
  ·
    have hf : fieldsOk m ↔ True := by unfold fieldsOk; simp only [hK, Int.reduceEq, if_false]
    have HE1 := hid (show R = true from hres.trans (decide_eq_true (hf.2 trivial)))
    clear hres hf hK HR HBO
    go_wp2_with fail
    go_ret
    exact ⟨ret_bool HE1.out.symm, hB2.out⟩
  ·
    have k8 := HA2.out.cell (i := 8) (v := .int .i64 m.id) (by rw [← HC.out]; unfold msgC; rfl)
    have hf : fieldsOk m ↔ (1 ≤ m.id ∧ m.id ≤ 2147483647) := by unfold fieldsOk; simp only [hK, Int.reduceEq, if_true, if_false]
    by_cases p1 : 1 ≤ m.id
    ·
      have HE1 := hid (show R = decide (m.id ≤ 2147483647) from hres.trans (decide_eq_decide.2 ⟨fun e => (hf.1 e).2, fun e => hf.2 ⟨p1, e⟩⟩))
      clear hres hf hK HR HBO
      go_wp2_with fail
      go_ret
      exact ⟨ret_bool HE1.out.symm, hB2.out⟩
    ·
      have HE1 := hid (show R = false from hres.trans (decide_eq_false (fun e => p1 (hf.1 e).1)))
      clear hres hf hK HR HBO
      go_wp2_with fail
      go_ret
      exact ⟨ret_bool HE1.out.symm, hB2.out⟩
  ·
    have k14 := HA2.out.cell (i := 14) (v := .int .i64 m.pos.x) (by rw [← HC.out]; unfold msgC; rfl)
    have k15 := HA2.out.cell (i := 15) (v := .int .i64 m.pos.y) (by rw [← HC.out]; unfold msgC; rfl)
    have k16 := HA2.out.cell (i := 16) (v := .int .i64 m.pos.z) (by rw [← HC.out]; unfold msgC; rfl)
    have k17 := HA2.out.cell (i := 17) (v := .int .i64 m.vel.x) (by rw [← HC.out]; unfold msgC; rfl)
    have k18 := HA2.out.cell (i := 18) (v := .int .i64 m.vel.y) (by rw [← HC.out]; unfold msgC; rfl)
    have k19 := HA2.out.cell (i := 19) (v := .int .i64 m.vel.z) (by rw [← HC.out]; unfold msgC; rfl)
    have hf : fieldsOk m ↔ (m.pos.in (-2147483648) 2147483647 ∧ m.vel.in (-2147483648) 2147483647) := by unfold fieldsOk; simp only [hK, Int.reduceEq, if_true, if_false]
    have hfp := fun u => farF m.pos (-2147483648) 2147483647 u
    have hfv := fun u => farF m.vel (-2147483648) 2147483647 u
    by_cases p1 : m.pos.in (-2147483648) 2147483647
    ·
      have HE1 := hid (show R = decide (m.vel.in (-2147483648) 2147483647) from hres.trans (decide_eq_decide.2 ⟨fun e => (hf.1 e).2, fun e => hf.2 ⟨p1, e⟩⟩))
      clear hres hf hK HR HBO
      go_wp2_with fail
      refine (hfp _).mono ?_; rintro e u3 ⟨rfl, hb3⟩
      rw [decide_eq_true p1]
      have hB3 := hid (btrans hB2.out hb3)
      have c17 := (HA2.out.below hb3).cell (i := 17) (v := .int .i64 m.vel.x) (by rw [← HC.out]; unfold msgC; rfl)
      have c18 := (HA2.out.below hb3).cell (i := 18) (v := .int .i64 m.vel.y) (by rw [← HC.out]; unfold msgC; rfl)
      have c19 := (HA2.out.below hb3).cell (i := 19) (v := .int .i64 m.vel.z) (by rw [← HC.out]; unfold msgC; rfl)
      clear hb3
      go_wp2_with fail
      refine (hfv _).mono ?_; rintro e u4 ⟨rfl, hb4⟩
      have hB4 := hid (btrans hB3.out hb4)
      clear hb4
      go_wp2_with fail
      go_ret
      exact ⟨ret_bool HE1.out.symm, hB4.out⟩
    ·
      have HE1 := hid (show R = false from hres.trans (decide_eq_false (fun e => p1 (hf.1 e).1)))
      clear hres hf hK HR HBO
      go_wp2_with fail
      refine (hfp _).mono ?_; rintro e u3 ⟨rfl, hb3⟩
      rw [decide_eq_false p1]
      have hB3 := hid (btrans hB2.out hb3)
      clear hb3
      go_wp2_with fail
      go_ret
      exact ⟨ret_bool HE1.out.symm, hB3.out⟩
  ·
    have k8 := HA2.out.cell (i := 8) (v := .int .i64 m.id) (by rw [← HC.out]; unfold msgC; rfl)
    have hf : fieldsOk m ↔ (1 ≤ m.id ∧ m.id ≤ 2147483647) := by unfold fieldsOk; simp only [hK, Int.reduceEq, if_true, if_false]
    by_cases p1 : 1 ≤ m.id
    ·
      have HE1 := hid (show R = decide (m.id ≤ 2147483647) from hres.trans (decide_eq_decide.2 ⟨fun e => (hf.1 e).2, fun e => hf.2 ⟨p1, e⟩⟩))
      clear hres hf hK HR HBO
      go_wp2_with fail
      go_ret
      exact ⟨ret_bool HE1.out.symm, hB2.out⟩
    ·
      have HE1 := hid (show R = false from hres.trans (decide_eq_false (fun e => p1 (hf.1 e).1)))
      clear hres hf hK HR HBO
      go_wp2_with fail
      go_ret
      exact ⟨ret_bool HE1.out.symm, hB2.out⟩
  ·
    have k13 := HA2.out.cell (i := 13) (v := .int .i64 m.why) (by rw [← HC.out]; unfold msgC; rfl)
    have hf : fieldsOk m ↔ (1 ≤ m.why ∧ m.why ≤ 10) := by unfold fieldsOk; simp only [hK, Int.reduceEq, if_true, if_false]
    by_cases p1 : 1 ≤ m.why
    ·
      have HE1 := hid (show R = decide (m.why ≤ 10) from hres.trans (decide_eq_decide.2 ⟨fun e => (hf.1 e).2, fun e => hf.2 ⟨p1, e⟩⟩))
      clear hres hf hK HR HBO
      go_wp2_with fail
      go_ret
      exact ⟨ret_bool HE1.out.symm, hB2.out⟩
    ·
      have HE1 := hid (show R = false from hres.trans (decide_eq_false (fun e => p1 (hf.1 e).1)))
      clear hres hf hK HR HBO
      go_wp2_with fail
      go_ret
      exact ⟨ret_bool HE1.out.symm, hB2.out⟩
  ·
    have k22 := HA2.out.cell (i := 22) (v := .slice p m.bytes.length cap) (by rw [← HC.out]; unfold msgC; rfl)
    have hf : fieldsOk m ↔ m.bytes.length ≤ 1023 := by unfold fieldsOk; simp only [hK, Int.reduceEq, if_true, if_false]
    have HE1 := hid (show R = decide ((m.bytes.length : Int) ≤ 1023) from hres.trans (decide_eq_decide.2 ⟨fun e => by have := hf.1 e; omega, fun e => hf.2 (by omega)⟩))
    clear hres hf hK HR HBO
    go_wp2_with fail
    go_ret
    exact ⟨ret_bool HE1.out.symm, hB2.out⟩
open Go.RowKit Go.Shelf
set_option linter.unusedVariables false
set_option linter.unusedSimpArgs false
attribute [local go_sem ↓] Go.wp_at_zero Go.wp_at_succ
/-- What the document's Encode answers. -/
def RefEnc (bits : List Bool) (E : Int) (e : Ending) : Prop := ∃ ys, e = .returned (.tuple #[.string (str ys), .int .i64 E]) ∧ (E = 0 → ∃ f, Packs ys f bits) ∧ (E ≠ 0 → ys = [])
theorem refEnc_fail (bits : List Bool) (E : Int) (h : E ≠ 0) : RefEnc bits E (.returned (.tuple #[.string ⟨#[]⟩, .int .i64 E])) := ⟨[], rfl, fun e => (h e).elim, fun _ => rfl⟩
set_option maxRecDepth 100000 in
set_option maxHeartbeats 4000000 in
theorem refEncodeF (p : Option Addr) (cap : Nat) (ms : List Msg) (q : Nat → Option Addr × Nat) (w : World) (h : ArgM w p cap ms q) :
    Calls Try.prog 15 #[.slice p ms.length cap] w fun e w' => RefEnc (encJ ms ms.length) (encE ms) e ∧ Below w.heap.size w w' := by
  have hle := h.le; have hmost := h.most
  unfold maxLen at hmost
  have hW := fun u (hb : Below w.heap.size w u) => refWriteF p cap ms q u (h.keep hb)
  have hE1 : ms.all rgtB = false → encE ms = 1 := fun e => by unfold encE; rw [e]; rfl
  have hE5 : ms.all rgtB = true → ¬ ms.length ≤ 16 → encE ms = 5 := fun e e2 => by unfold encE; rw [if_pos e, if_neg e2]
  have hE2 : ms.all rgtB = true → ms.length ≤ 16 → encE ms = if (encJ ms ms.length).length ≤ 8192 then 0 else 5 := fun e e2 => by unfold encE; rw [if_pos e, if_pos e2]
  have hall := all_mg ms rgtB
  obtain ⟨E, hE⟩ : ∃ E, encE ms = E := ⟨_, rfl⟩
  rw [hE] at hE1 hE5 hE2 ⊢
  obtain ⟨n, hn⟩ : ∃ n, ms.length = n := ⟨_, rfl⟩
  have HN := hid hn
  rw [hn] at hle hW hE5 hE2 hall ⊢
  obtain ⟨bits, hbits⟩ : ∃ b, encJ ms n = b := ⟨_, rfl⟩
  rw [hbits] at hW hE2 ⊢
  have HH := hid h; have HW := hid hW; have HE1 := hid hE1; have HE5 := hid hE5; have HE2 := hid hE2; have HALL := hid hall
  have hn0 : n ≤ 9223372036854775807 := by omega
  clear h hW hE1 hE5 hE2 hall hE hn hbits
  go_enter Try.func15, Try.ntmps15
  go_wp2_with fail
  go_loopw [4] (fun i wr => ∃ (j : Nat), i = .int .i64 (j : Int) ∧ j ≤ n ∧ (∀ k, k < j → rgtB (mg ms k) = true) ∧ Below w.heap.size w wr) (fun i _ => n - (intOf i).toNat)
  case atStart => exact ⟨0, rfl, Nat.zero_le _, fun k hk => by omega, Below.refl _ _⟩
  case round =>
    obtain ⟨j, rfl, hj, hal, hb⟩ := hrel
    by_cases hlt : j < n
    · have hlt' : j < ms.length := by rw [HN.out]; exact hlt
      have hA := HH.out.keep hb
      obtain ⟨b, o, rfl, hbl, hc⟩ := hA.at hlt'
      have hcj := hc j hlt'
      have hsz : (mgC ms q j).size = 23 := mgC_size ms q j
      have hrf := refRightF (mg ms j) (q j).1 (q j).2 wr (hA.ok j hlt') (hA.bytes j hlt')
      have hm1 : msgC (mg ms j) (.slice (q j).1 (mg ms j).bytes.length (q j).2) = mgC ms q j := rfl
      rw [hm1] at hrf
      generalize mgC ms q j = cs at *
      obtain ⟨r, hr⟩ : ∃ r, rgtB (mg ms j) = r := ⟨_, rfl⟩
      rw [hr] at hrf
      have HB := hid hb; have HC := hid hcj; have HR := hid hr; have HAL := hid hal
      have i1 : (j : Int) < (n : Int) := by omega
      clear hA hc hcj hb hm1 hr hal
      go_wp2_with (refine wpList_load_at rfl _ rfl b (o + j * 23) rfl cs hsz HC.out ?_)
      refine hrf.mono ?_
      rintro e u3 ⟨rfl, hb3⟩
      dsimp only
      have HB3 := hid (btrans HB.out hb3)
      clear hrf hb3 HB HC
      cases r
      · obtain rfl : E = 1 := HE1.out (by
          cases hx : ms.all rgtB
          · rfl
          · have := HALL.out.1 hx j hlt; rw [HR.out] at this; cases this)
        go_wp2_with fail
        go_returns
        exact ⟨refEnc_fail _ _ (by decide), HB3.out⟩
      · go_wp2_with fail
        go_roundw
        case rel => exact ⟨j + 1, by go_num, by omega, fun k hk => by
            by_cases e : k = j
            · rw [e]; exact HR.out
            · exact HAL.out k (by omega), HB3.out⟩
        case measure => simp [intOf]; omega
    · obtain rfl : j = n := by omega
      have hall : ms.all rgtB = true := HALL.out.2 hal
      have i1 : ¬ (j : Int) < (j : Int) := by omega
      by_cases hl : j ≤ 16
      rotate_left
      · obtain rfl : E = 5 := HE5.out hall hl
        have i2 : (16 : Int) < (j : Int) := by omega
        have HB := hid hb
        clear hb hal hall
        go_wp2_with fail
        go_returns
        exact ⟨refEnc_fail _ _ (by decide), HB.out⟩
      have i2 : ¬ (16 : Int) < (j : Int) := by omega
      have hw := HW.out wr hb hall hl
      have HE := hid (HE2.out hall hl)
      have HB := hid hb
      clear hb hal hall
      go_wp2_with fail
      refine hw.mono ?_
      rintro e u3 ⟨⟨ys, rfl, f, hp⟩, hb3⟩
      dsimp only
      have hl3 := hp.len
      have hf3 := hp.few
      have hsz := str_size ys
      obtain ⟨s, hs⟩ : ∃ s, str ys = s := ⟨_, rfl⟩
      rw [hs] at hsz ⊢
      have HB3 := hid (btrans HB.out hb3); have HP := hid hp; have HS := hid hs
      clear hw hb3 hp HB hs
      by_cases h8 : ys.length ≤ 1024
      · have hI : ¬ (1024 : Int) < (s.size : Int) := by omega
        obtain rfl : E = 0 := by rw [HE.out, if_pos (by omega)]
        clear hsz
        go_wp2_with fail
        go_returns
        exact ⟨⟨ys, by rw [HS.out]; rfl, fun _ => ⟨f, HP.out⟩, fun e => (e rfl).elim⟩, HB3.out⟩
      · have hI : (1024 : Int) < (s.size : Int) := by omega
        obtain rfl : E = 5 := by rw [HE.out, if_neg (by omega)]
        clear hsz
        go_wp2_with fail
        go_returns
        exact ⟨refEnc_fail _ _ (by decide), HB3.out⟩
open Go.RowKit Go.Shelf
set_option linter.unusedVariables false
set_option linter.unusedSimpArgs false
attribute [local go_sem ↓] Go.wp_at_zero Go.wp_at_succ
set_option maxRecDepth 100000 in
set_option maxHeartbeats 4000000 in
theorem messageWrites_walk (p0 : Option Addr) (c0 : Nat) (l : List Msg) (q0 : Nat → Option Addr × Nat) (w : World) (h0 : ArgM w p0 c0 l q0) :
    Calls Try.prog 3 #[.slice p0 l.length c0] w fun e w' => e = .returned (.bool true) ∧ Below w.heap.size w w' := by
  have hsh := shownF w
  have H0 := hid h0
  clear h0
  go_enter Try.func3, Try.ntmps3
  go_wp2_with fail
  refine hsh.mono ?_
  rintro e u1 ⟨rfl, hb1⟩
  dsimp only
  have hF := fewF p0 c0 l q0 u1 (H0.out.keep hb1)
  have HB1 := hid hb1
  clear hsh hb1
  go_wp2_with fail
  refine hF.mono ?_
  rintro e u2 ⟨⟨p2, c2, rfl, hA2'⟩, hb2⟩
  dsimp only
  obtain ⟨q2, hA2⟩ : ∃ q2, ArgM u2 p2 c2 (fewM l) q2 := ⟨_, hA2'⟩
  have HB2 := hid (btrans HB1.out hb2)
  have HA2 := hid hA2
  have hEn := encodeF p2 c2 (fewM l) q2 u2 hA2
  clear hF hb2 HB1 hA2 hA2' H0
  generalize fewM l = fs at *
  go_wp2_with fail
  refine hEn.mono ?_
  rintro e u3 ⟨⟨v3, ys, rfl, hrow3, hp3, hz3⟩, hb3⟩
  dsimp only
  have HB3 := hid (btrans HB2.out hb3)
  have HA3 := hid (HA2.out.keep hb3)
  obtain ⟨p3, c3, rfl, ha3⟩ := hrow3.arg
  have HR3 := hid ha3
  have hRe := refEncodeF p2 c2 fs q2 u3 HA3.out
  have HP3 := hid hp3; have HZ3 := hid hz3
  clear hEn hb3 HB2 HA2 hp3 hz3 hrow3 ha3
  go_wp2_with fail
  refine hRe.mono ?_
  rintro e u4 ⟨⟨ys2, rfl, hp4, hz4⟩, hb4⟩
  dsimp only
  have HB4 := hid (btrans HB3.out hb4)
  have HA4 := hid (HA3.out.keep hb4)
  have HR4 := hid (HR3.out.keep hb4)
  obtain rfl : ys = ys2 := by
    by_cases hE : encE fs = 0
    · obtain ⟨f1, k1⟩ := HP3.out hE
      obtain ⟨f2, k2⟩ := hp4 hE
      exact k1.uniq k2
    · rw [HZ3.out hE, hz4 hE]
  obtain ⟨E, hE⟩ : ∃ E, encE fs = E := ⟨_, rfl⟩
  rw [hE]
  obtain ⟨n, hn⟩ : ∃ n, fs.length = n := ⟨_, rfl⟩
  have HN := hid hn
  have hle := HA4.out.le; have hmost := HA4.out.most
  unfold maxLen at hmost
  rw [hn] at hle ⊢
  have hn0 : n ≤ 9223372036854775807 := by omega
  obtain ⟨s, hs⟩ : ∃ s, str ys = s := ⟨_, rfl⟩
  rw [hs]
  have HS := hid hs
  clear hRe hb4 HB3 HA3 HR3 hp4 hz4 HP3 HZ3 hE hn hs
  go_wp2_with fail
  go_loopw [8] (fun i wr => ∃ (j : Nat), i = .int .i64 (j : Int) ∧ j ≤ n ∧ Below u4.heap.size u4 wr) (fun i _ => n - (intOf i).toNat)
  case atStart => exact ⟨0, rfl, Nat.zero_le _, Below.refl _ _⟩
  case round =>
    obtain ⟨j, rfl, hj, hb⟩ := hrel
    by_cases hlt : j < n
    · have hlt' : j < fs.length := by rw [HN.out]; exact hlt
      have hA := HA4.out.keep hb
      obtain ⟨b1, o1, rfl, hbl1, hc1⟩ := hA.at hlt'
      have hcj1 := hc1 j hlt'
      obtain ⟨r, hr⟩ : ∃ r, rgtB (mg fs j) = r := ⟨_, rfl⟩
      have hR1 : ∀ u, Below wr.heap.size wr u → _ := fun u hu => rightF (mg fs j) (q2 j).1 (q2 j).2 u (hA.ok j hlt') ((hA.bytes j hlt').keep hu)
      have hR2 : ∀ u, Below wr.heap.size wr u → _ := fun u hu => refRightF (mg fs j) (q2 j).1 (q2 j).2 u (hA.ok j hlt') ((hA.bytes j hlt').keep hu)
      have hm1 : msgC (mg fs j) (.slice (q2 j).1 (mg fs j).bytes.length (q2 j).2) = mgC fs q2 j := rfl
      rw [hm1, hr] at hR1 hR2
      have hsz1 : (mgC fs q2 j).size = 23 := mgC_size fs q2 j
      generalize mgC fs q2 j = cs1 at *
      have HB := hid hb; have HC1 := hid hcj1; have HR1 := hid hR1; have HR2 := hid hR2
      have hne : (r != r) = false := by cases r <;> rfl
      have i1 : (j : Int) < (n : Int) := by omega
      clear hA hc1 hcj1 hb hm1 hR1 hR2 hr
      go_wp2_with fail
      refine region_held (fun u => Below wr.heap.size wr u) 11 rfl (by kernel_rfl) (below_drewN wr 1) ?_
      intro hHeld
      refine takeO 0 (some 28) (v := ?v1) rfl rfl (by kernel_rfl) (by kernel_rfl) (by kernel_rfl) (Or.inl ⟨by rfl, ?y1⟩) hHeld ?r1
      case y1 => (intro w' hSw; (try dsimp only at hSw); go_simp; try with_reducible rfl)
      try simp only [Act.put, List.setIfInBounds_toArray, List.set_cons_zero, List.set_cons_succ]
      refine takeO 1 (some 29) (v := ?v2) rfl rfl (by kernel_rfl) (by kernel_rfl) (by kernel_rfl) (Or.inl ⟨by rfl, ?y2⟩) hHeld ?r2
      case y2 => (intro w' hSw; (try dsimp only at hSw); go_simp; try with_reducible rfl)
      try simp only [Act.put, List.setIfInBounds_toArray, List.set_cons_zero, List.set_cons_succ]
      refine takeO 2 (some 30) (v := ?v3) rfl rfl (by kernel_rfl) (by kernel_rfl) (by kernel_rfl) (Or.inl ⟨by rfl, ?y3⟩) hHeld ?r3
      case y3 => (intro w' hSw; (try dsimp only at hSw); go_simp; try with_reducible rfl)
      try simp only [Act.put, List.setIfInBounds_toArray, List.set_cons_zero, List.set_cons_succ]
      refine takeO 3 (some 31) rfl rfl (by kernel_rfl) (by kernel_rfl) (by kernel_rfl) (yields_at (b := b1) (off := o1 + j * 23) (cs := cs1) (by rfl) rfl rfl hsz1 (fun w' hSw i v hv => (RowKit.Below.cell (p := ⟨b1, _, none⟩) hSw hbl1).trans (HC1.out i v hv))) hHeld ?_
      try simp only [Act.put, List.setIfInBounds_toArray, List.set_cons_zero, List.set_cons_succ]
      refine takeO 5 (some 33) (v := ?v4) rfl rfl (by kernel_rfl) (by kernel_rfl) (by kernel_rfl) (Or.inl ⟨by rfl, ?y4⟩) hHeld ?r4
      case y4 => (intro w' hSw; (try dsimp only at hSw); go_simp; try with_reducible rfl)
      try simp only [Act.put, List.setIfInBounds_toArray, List.set_cons_zero, List.set_cons_succ]
      refine takeO 6 (some 34) (v := ?v5) rfl rfl (by kernel_rfl) (by kernel_rfl) (by kernel_rfl) (Or.inl ⟨by rfl, ?y5⟩) hHeld ?r5
      case y5 => (intro w' hSw; (try dsimp only at hSw); go_simp; try with_reducible rfl)
      try simp only [Act.put, List.setIfInBounds_toArray, List.set_cons_zero, List.set_cons_succ]
      refine takeO 7 (some 35) (v := ?v6) rfl rfl (by kernel_rfl) (by kernel_rfl) (by kernel_rfl) (Or.inl ⟨by rfl, ?y6⟩) hHeld ?r6
      case y6 => (intro w' hSw; (try dsimp only at hSw); go_simp; try with_reducible rfl)
      try simp only [Act.put, List.setIfInBounds_toArray, List.set_cons_zero, List.set_cons_succ]
      refine takeO 8 (some 36) rfl rfl (by kernel_rfl) (by kernel_rfl) (by kernel_rfl) (yields_at (b := b1) (off := o1 + j * 23) (cs := cs1) (by rfl) rfl rfl hsz1 (fun w' hSw i v hv => (RowKit.Below.cell (p := ⟨b1, _, none⟩) hSw hbl1).trans (HC1.out i v hv))) hHeld ?_
      try simp only [Act.put, List.setIfInBounds_toArray, List.set_cons_zero, List.set_cons_succ]
      refine wpAnyH_ready (rs := [4]) (by kernel_rfl) (by simp) ?_
      refine AllReadyH.cons rfl (fun K hK => ?_) AllReadyH.nil
      go_simp
      refine (HR1.out wr.drew (below_drewN wr 1)).mono ?_
      rintro e2 u5 ⟨rfl, hb5⟩
      dsimp only
      have HB5 := hid (show Below wr.heap.size wr u5 from btrans (below_drewN wr 1) hb5)
      refine hK.out _ _ HB5.out (fun hHeld => ?_)
      clear hK K hb5
      refine wpAnyH_ready (rs := [9]) (by kernel_rfl) (by simp) ?_
      refine AllReadyH.cons rfl (fun K hK => ?_) AllReadyH.nil
      go_simp
      refine (HR2.out u5 HB5.out).mono ?_
      rintro e2 u6 ⟨rfl, hb6⟩
      dsimp only
      have HB6 := hid (show Below wr.heap.size wr u6 from btrans HB5.out hb6)
      refine hK.out _ _ HB6.out (fun hHeld => ?_)
      clear hK K hb6
      refine takeO 10 (some 38) (v := ?v7) rfl rfl (by kernel_rfl) (by kernel_rfl) (by kernel_rfl) (Or.inl ⟨by rfl, ?y7⟩) hHeld ?r7
      case y7 => (intro w' hSw; (try dsimp only at hSw); go_simp; try with_reducible rfl)
      try simp only [Act.put, List.setIfInBounds_toArray, List.set_cons_zero, List.set_cons_succ]
      refine wpAnyH_done (by kernel_rfl) (Only.on ?_) _
      clear hHeld HR1 HR2 HC1 HB5
      have HB7 := hid (btrans HB.out HB6.out)
      clear HB HB6
      go_wp2_with fail
      go_roundw
      case rel => exact ⟨j + 1, by go_num, by omega, HB7.out⟩
      case measure => simp [intOf]; omega
    · obtain rfl : j = n := by omega
      have cv := conv_arg (HR4.out.keep hb)
      rw [HS.out] at cv
      have HB := hid (btrans HB4.out hb)
      have i1 : ¬ (j : Int) < (j : Int) := by omega
      clear hb HR4 HB4 HA4 HS
      go_wp2_with fail
      go_ret
      exact ⟨rfl, HB.out⟩
end Go.Proofs.Ytkmiogaklmgnkaa
