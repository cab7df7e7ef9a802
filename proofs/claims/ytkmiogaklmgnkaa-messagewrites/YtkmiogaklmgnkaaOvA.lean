/- Layer 5 (message): the bits of three numbers: the document's. -/
import Derived.Test.YtkmiogaklmgnkaaBtS
import Derived.Test.YtkmiogaklmgnkaaMsB
import Derived.Test.YtkmiogaklmgnkaaMsN
import Derived.Test.YtkmiogaklmgnkaaMsI
import Derived.Test.YtkmiogaklmgnkaaMtR
import Derived.Laws.Tables
import Derived.KernelRfl
namespace Go.Proofs.Ytkmiogaklmgnkaa
open Go.RowKit Go.Shelf
set_option linter.unusedVariables false
set_option linter.unusedSimpArgs false
attribute [local go_sem ↓] Go.wp_at_zero Go.wp_at_succ

theorem wrapU_u64 (n : Int) : IntKind.u64.wrap n = (((n % 2 ^ 64).toNat : Nat) : Int) := by
  unfold IntKind.wrap
  simp only [IntKind.signed, Bool.false_and, IntKind.bits]
  rw [if_neg (by simp)]
  have : 0 ≤ n % 2 ^ 64 := Int.emod_nonneg _ (by decide)
  omega
/-- The bits of a number, as a text. -/
def bitsK (n : Int) (k : Nat) : List Bool := low (n % 2 ^ 64).toNat k
theorem bitsK_length (n : Int) (k : Nat) : (bitsK n k).length = k := low_length _ _
theorem textN (n : Int) (k : Nat) (hk : k ≤ 64) (w : World) :
    Calls Try.prog 52 #[.int .u64 (IntKind.u64.wrap n), .int .i64 (k : Int)] w fun e w' => e = .returned (.string (txt (bitsK n k))) ∧ Below w.heap.size w w' := by
  have hlt : (n % 2 ^ 64).toNat < 2 ^ 64 := by
    have h1 := Int.emod_lt_of_pos n (show (0 : Int) < 2 ^ 64 by decide)
    have h2 : 0 ≤ n % 2 ^ 64 := Int.emod_nonneg _ (by decide)
    omega
  have h := refText (n % 2 ^ 64).toNat (k : Int) w hlt
  rw [show cnt (k : Int) = k by unfold cnt; omega] at h
  rw [wrapU_u64]
  exact h
theorem txt_join {a b c : List Bool} (h : a ++ b = c) : txt a ++ txt b = txt c := by rw [txt_append, h]
set_option maxRecDepth 100000 in
set_option maxHeartbeats 2000000 in
theorem refVecF (v : V3) (k : Nat) (hk : k ≤ 32) (w : World) :
    Calls Try.prog 71 #[.agg #[.int .i64 v.x, .int .i64 v.y, .int .i64 v.z], .int .i64 (k : Int)] w fun e w' => e = .returned (.string (txt (bitsK v.x k ++ (bitsK v.y k ++ bitsK v.z k)))) ∧ Below w.heap.size w w' := by
  obtain ⟨x, y, z⟩ := v
  dsimp only
  have tx := fun u => textN x k (by omega) u
  have ty := fun u => textN y k (by omega) u
  have tz := fun u => textN z k (by omega) u
  obtain ⟨X, hX⟩ : ∃ X, bitsK x k = X := ⟨_, rfl⟩
  obtain ⟨Y, hY⟩ : ∃ Y, bitsK y k = Y := ⟨_, rfl⟩
  obtain ⟨Z, hZ⟩ : ∃ Z, bitsK z k = Z := ⟨_, rfl⟩
  have lX : X.length ≤ 32 := by rw [← hX, bitsK_length]; exact hk
  have lY : Y.length ≤ 32 := by rw [← hY, bitsK_length]; exact hk
  have lZ : Z.length ≤ 32 := by rw [← hZ, bitsK_length]; exact hk
  rw [hX] at tx
  rw [hY] at ty
  rw [hZ] at tz
  rw [hX, hY, hZ]
  have j1 := txt_append X Y
  have j2 := txt_append (X ++ Y) Z
  rw [List.append_assoc] at j2
  have s1 := txt_size X; have s2 := txt_size Y; have s3 := txt_size Z; have s4 := txt_size (X ++ Y)
  rw [List.length_append] at s4
  obtain ⟨tX, hTX⟩ : ∃ s, txt X = s := ⟨_, rfl⟩
  obtain ⟨tY, hTY⟩ : ∃ s, txt Y = s := ⟨_, rfl⟩
  obtain ⟨tZ, hTZ⟩ : ∃ s, txt Z = s := ⟨_, rfl⟩
  obtain ⟨tXY, hTXY⟩ : ∃ s, txt (X ++ Y) = s := ⟨_, rfl⟩
  obtain ⟨tA, hTA⟩ : ∃ s, txt (X ++ (Y ++ Z)) = s := ⟨_, rfl⟩
  rw [hTX] at tx j1 s1
  rw [hTY] at ty j1 s2
  rw [hTZ] at tz j2 s3
  rw [hTXY] at j1 j2 s4
  rw [hTA] at j2 ⊢
  have z1 : ¬ 9223372036854775807 < tX.size + tY.size := by omega
  have z2 : ¬ 9223372036854775807 < tXY.size + tZ.size := by omega
  clear hX hY hZ hTX hTY hTZ hTXY hTA s1 s2 s3 s4
  have hb0 : Below w.heap.size w (w.alloc (.cells #[.int .i64 x, .int .i64 y, .int .i64 z] 37)) := (Below.refl _ _).alloc (Nat.le_refl _) _
  have A := Bq.new w 37 #[.int .i64 x, .int .i64 y, .int .i64 z]
  have HB := hid (hb0.trans (below_drewN _ 1))
  have HA := A.below (below_drewN _ 1)
  clear hb0 A
  go_enter Try.func71, Try.ntmps71
  go_wp2_with fail
  refine region_held (fun u => u.cell? ⟨w.heap.size, 0, none⟩ = some (.int .i64 x) ∧ u.cell? ⟨w.heap.size, 1, none⟩ = some (.int .i64 y) ∧ u.cell? ⟨w.heap.size, 2, none⟩ = some (.int .i64 z)) 18 rfl (by kernel_rfl) ⟨HA.cell (i := 0) rfl, HA.cell (i := 1) rfl, HA.cell (i := 2) rfl⟩ ?_
  intro hHeld
  refine takeO 0 (some 5) (v := ?v1) rfl rfl (by kernel_rfl) (by kernel_rfl) (by kernel_rfl) (Or.inl ⟨by rfl, ?y1⟩) hHeld ?r1
  case y1 => (intro w' hSw; (try dsimp only at hSw); go_simp; try with_reducible rfl)
  try simp only [Act.put, List.setIfInBounds_toArray, List.set_cons_zero, List.set_cons_succ]
  refine takeO 1 (some 6) (v := ?v2) rfl rfl (by kernel_rfl) (by kernel_rfl) (by kernel_rfl) (Or.inl ⟨by rfl, ?y2⟩) hHeld ?r2
  case y2 => (intro w' hSw; (try dsimp only at hSw); go_simp; try with_reducible rfl)
  try simp only [Act.put, List.setIfInBounds_toArray, List.set_cons_zero, List.set_cons_succ]
  refine takeO 2 (some 7) (v := ?v3) rfl rfl (by kernel_rfl) (by kernel_rfl) (by kernel_rfl) (Or.inl ⟨by rfl, ?y3⟩) hHeld ?r3
  case y3 => (intro w' hSw; (try dsimp only at hSw); go_simp; try with_reducible rfl)
  try simp only [Act.put, List.setIfInBounds_toArray, List.set_cons_zero, List.set_cons_succ]
  refine takeO 3 (some 8) (v := ?v4) rfl rfl (by kernel_rfl) (by kernel_rfl) (by kernel_rfl) (Or.inl ⟨by rfl, ?y4⟩) hHeld ?r4
  case y4 => (intro w' hSw; (try dsimp only at hSw); go_simp; try with_reducible rfl)
  try simp only [Act.put, List.setIfInBounds_toArray, List.set_cons_zero, List.set_cons_succ]
  refine takeO 5 (some 10) (v := ?v5) rfl rfl (by kernel_rfl) (by kernel_rfl) (by kernel_rfl) (Or.inl ⟨by rfl, ?y5⟩) hHeld ?r5
  case y5 => (intro w' hSw; (try dsimp only at hSw); go_simp; try with_reducible rfl)
  try simp only [Act.put, List.setIfInBounds_toArray, List.set_cons_zero, List.set_cons_succ]
  refine takeO 6 (some 11) (v := ?v6) rfl rfl (by kernel_rfl) (by kernel_rfl) (by kernel_rfl) (Or.inl ⟨by rfl, ?y6⟩) hHeld ?r6
  case y6 => (intro w' hSw; (try dsimp only at hSw); go_simp; try with_reducible rfl)
  try simp only [Act.put, List.setIfInBounds_toArray, List.set_cons_zero, List.set_cons_succ]
  refine takeO 7 (some 12) (v := ?v7) rfl rfl (by kernel_rfl) (by kernel_rfl) (by kernel_rfl) (Or.inl ⟨by rfl, ?y7⟩) hHeld ?r7
  case y7 => (intro w' hSw; (try dsimp only at hSw); go_simp; try with_reducible rfl)
  try simp only [Act.put, List.setIfInBounds_toArray, List.set_cons_zero, List.set_cons_succ]
  refine takeO 8 (some 13) (v := ?v8) rfl rfl (by kernel_rfl) (by kernel_rfl) (by kernel_rfl) (Or.inl ⟨by rfl, ?y8⟩) hHeld ?r8
  case y8 => (intro w' hSw; (try dsimp only at hSw); go_simp; try with_reducible rfl)
  try simp only [Act.put, List.setIfInBounds_toArray, List.set_cons_zero, List.set_cons_succ]
  refine takeO 11 (some 16) (v := ?v9) rfl rfl (by kernel_rfl) (by kernel_rfl) (by kernel_rfl) (Or.inl ⟨by rfl, ?y9⟩) hHeld ?r9
  case y9 => (intro w' hSw; (try dsimp only at hSw); go_simp; try with_reducible rfl)
  try simp only [Act.put, List.setIfInBounds_toArray, List.set_cons_zero, List.set_cons_succ]
  refine takeO 12 (some 17) (v := ?v10) rfl rfl (by kernel_rfl) (by kernel_rfl) (by kernel_rfl) (Or.inl ⟨by rfl, ?y10⟩) hHeld ?r10
  case y10 => (intro w' hSw; (try dsimp only at hSw); go_simp; try with_reducible rfl)
  try simp only [Act.put, List.setIfInBounds_toArray, List.set_cons_zero, List.set_cons_succ]
  refine takeO 13 (some 18) (v := ?v11) rfl rfl (by kernel_rfl) (by kernel_rfl) (by kernel_rfl) (Or.inl ⟨by rfl, ?y11⟩) hHeld ?r11
  case y11 => (intro w' hSw; (try dsimp only at hSw); go_simp; try with_reducible rfl)
  try simp only [Act.put, List.setIfInBounds_toArray, List.set_cons_zero, List.set_cons_succ]
  refine takeO 14 (some 19) (v := ?v12) rfl rfl (by kernel_rfl) (by kernel_rfl) (by kernel_rfl) (Or.inl ⟨by rfl, ?y12⟩) hHeld ?r12
  case y12 => (intro w' hSw; (try dsimp only at hSw); go_simp; try with_reducible rfl)
  try simp only [Act.put, List.setIfInBounds_toArray, List.set_cons_zero, List.set_cons_succ]
  refine wpAnyH_ready (rs := [4]) (by kernel_rfl) (by simp) ?_
  refine AllReadyH.cons rfl (fun K hK => ?_) AllReadyH.nil
  go_simp
  refine (tx _).mono ?_
  rintro e u1 ⟨rfl, hb1⟩
  dsimp only
  have HB1 := hid (btrans HB.out hb1)
  have HA1 := HA.below hb1
  refine hK.out _ _ ⟨HA1.cell (i := 0) rfl, HA1.cell (i := 1) rfl, HA1.cell (i := 2) rfl⟩ (fun hHeld => ?_)
  clear hK K tx hb1 HA HB
  refine wpAnyH_ready (rs := [9]) (by kernel_rfl) (by simp) ?_
  refine AllReadyH.cons rfl (fun K hK => ?_) AllReadyH.nil
  go_simp
  refine (ty _).mono ?_
  rintro e u2 ⟨rfl, hb2⟩
  dsimp only
  have HB2 := hid (btrans HB1.out hb2)
  have HA2 := HA1.below hb2
  refine hK.out _ _ ⟨HA2.cell (i := 0) rfl, HA2.cell (i := 1) rfl, HA2.cell (i := 2) rfl⟩ (fun hHeld => ?_)
  clear hK K ty hb2 HA1 HB1
  refine takeO 10 (some 15) (v := ?v13) rfl rfl (by kernel_rfl) (by kernel_rfl) (by kernel_rfl) (Or.inl ⟨by rfl, ?y13⟩) hHeld ?r13
  case y13 => (intro w' hSw; (try dsimp only at hSw); go_simp; try with_reducible rfl)
  try simp only [Act.put, List.setIfInBounds_toArray, List.set_cons_zero, List.set_cons_succ]
  refine wpAnyH_ready (rs := [15]) (by kernel_rfl) (by simp) ?_
  refine AllReadyH.cons rfl (fun K hK => ?_) AllReadyH.nil
  go_simp
  refine (tz _).mono ?_
  rintro e u3 ⟨rfl, hb3⟩
  dsimp only
  have HB3 := hid (btrans HB2.out hb3)
  have HA3 := HA2.below hb3
  refine hK.out _ _ ⟨HA3.cell (i := 0) rfl, HA3.cell (i := 1) rfl, HA3.cell (i := 2) rfl⟩ (fun hHeld => ?_)
  clear hK K tz hb3 HA2 HB2
  refine takeO 16 (some 21) (v := ?v14) rfl rfl (by kernel_rfl) (by kernel_rfl) (by kernel_rfl) (Or.inl ⟨by rfl, ?y14⟩) hHeld ?r14
  case y14 => (intro w' hSw; (try dsimp only at hSw); go_simp; try with_reducible rfl)
  try simp only [Act.put, List.setIfInBounds_toArray, List.set_cons_zero, List.set_cons_succ]
  refine takeO 17 (some 4) (v := ?v15) rfl rfl (by kernel_rfl) (by kernel_rfl) (by kernel_rfl) (Or.inl ⟨by rfl, ?y15⟩) hHeld ?r15
  case y15 => (intro w' hSw; (try dsimp only at hSw); go_simp; try with_reducible rfl)
  try simp only [Act.put, List.setIfInBounds_toArray, List.set_cons_zero, List.set_cons_succ]
  refine wpAnyH_done (by kernel_rfl) (Only.on ?_) _
  clear hHeld
  go_wp2_with fail
  go_ret
  exact ⟨rfl, HB3.out⟩
open Go.RowKit Go.Shelf
set_option linter.unusedVariables false
set_option linter.unusedSimpArgs false

abbrev zMsW : Array Value := #[.int .i64 0, .int .u16 0, .int .u16 0, .int .u8 0, .int .i8 0, .int .i8 0, .int .i64 0, .int .u16 0, .int .i64 0, .int .i64 0, .int .i64 0, .int .i64 0, .int .i64 0, .int .i64 0, .int .i64 0, .int .i64 0, .int .i64 0, .int .i64 0, .int .i64 0, .int .i64 0, .int .u32 0, .int .u32 0, .slice none 0 0]
theorem buildKind (x : Int) (w : World) : (Instr.build 40 #[(0, .int .i64 x)]).run Try.prog w = .ok (.agg #[.int .i64 x, .int .u16 0, .int .u16 0, .int .u8 0, .int .i8 0, .int .i8 0, .int .i64 0, .int .u16 0, .int .i64 0, .int .i64 0, .int .i64 0, .int .i64 0, .int .i64 0, .int .i64 0, .int .i64 0, .int .i64 0, .int .i64 0, .int .i64 0, .int .i64 0, .int .i64 0, .int .u32 0, .int .u32 0, .slice none 0 0]) w := run_build w 40 _ _ (by kernel_rfl)
theorem wpList_buildKind {ops : Array Oper} {rest : List Oper} {o : Oper} {a : Act} {Q : Exit → Act → World → Prop} {w : World} (hgd : o.guard = none) (x : Operand) (ho : o.op = .build 40 #[(0, x)]) (k : Int) (hx : a.eval x = .int .i64 k) (h : wpList Try.prog ops Q rest (a.put o.dst (.agg #[.int .i64 k, .int .u16 0, .int .u16 0, .int .u8 0, .int .i8 0, .int .i8 0, .int .i64 0, .int .u16 0, .int .i64 0, .int .i64 0, .int .i64 0, .int .i64 0, .int .i64 0, .int .i64 0, .int .i64 0, .int .i64 0, .int .i64 0, .int .i64 0, .int .i64 0, .int .i64 0, .int .u32 0, .int .u32 0, .slice none 0 0])) w) : wpList Try.prog ops Q (o :: rest) a w := by
  refine wpList_plain hgd fun _ hK => ?_
  unfold Oper.wp execOp
  simp only [ho, List.map_toArray, List.map_cons, List.map_nil, hx, Sem.run_bind, buildKind, Result.andThen_ok]
  exact hK _ _ h
/-- The message that came in, the box of the answer, and the message that is made. -/
structure OX (w : World) (C : Array Value) (c : Array Value) (w' : World) : Prop where
  ax : Bq w' w.heap.size 40 C
  zx : Bq w' (w.heap.size + 1) 40 zMsW
  bx : Bq w' (w.heap.size + 2) 40 c
  bel : Below w.heap.size w w'
theorem OX.start (w : World) (C c : Array Value) : OX w C c (((w.alloc (.cells C 40)).alloc (.cells zMsW 40)).alloc (.cells c 40)) := by
  have e1 : (w.alloc (.cells C 40)).heap.size = w.heap.size + 1 := by simp
  have e2 : ((w.alloc (.cells C 40)).alloc (.cells zMsW 40)).heap.size = w.heap.size + 2 := by simp
  have b1 := Bq.new (w.alloc (.cells C 40)) 40 zMsW
  have b2 := Bq.new ((w.alloc (.cells C 40)).alloc (.cells zMsW 40)) 40 c
  rw [e1] at b1
  rw [e2] at b2
  exact ⟨((Bq.new w 40 C).alloc _).alloc _, b1.alloc _, b2, (((Below.refl _ _).alloc (Nat.le_refl _) _).alloc (by simp) _).alloc (by simp; omega) _⟩
theorem OX.set {w : World} {C c : Array Value} {w' : World} (h : OX w C c w') (i : Nat) (u : Value) : OX w C (c.setIfInBounds i u) (w'.setCell ⟨w.heap.size + 2, i, none⟩ u) :=
  ⟨h.ax.other (by omega) u, h.zx.other (by omega) u, h.bx.set i u, h.bel.setCell (p := ⟨w.heap.size + 2, i, none⟩) (show w.heap.size ≤ w.heap.size + 2 by omega) u⟩
theorem below_setRowW {B : Nat} {a b : World} (h : Below B a b) {g : Nat} (hg : B ≤ g) (cs : Array Value) : Below B a (b.setRow g cs) :=
  ⟨h.os, h.tape, h.output, by have := h.size; simp [World.setRow]; omega, fun k hk => by rw [heap_setRow _ _ _ (fun e => by omega)]; exact h.block k hk⟩
open Go.RowKit Go.Shelf
set_option linter.unusedVariables false
set_option linter.unusedSimpArgs false
attribute [local go_sem ↓] Go.wp_at_zero Go.wp_at_succ
set_option maxRecDepth 100000 in
set_option maxHeartbeats 8000000 in
theorem only_2 (m : Msg) (p : Option Addr) (L cap : Nat) (w : World) (hk : m.kind = 2) :
    Calls Try.prog 30 #[.agg (msgC m (.slice p L cap))] w fun e w' => e = .returned (.agg #[.int .i64 2, .int .u16 0, .int .u16 m.cmd.seq, .int .u8 m.cmd.but, .int .i8 m.cmd.dx, .int .i8 m.cmd.dy, .int .i64 m.cmd.tk, .int .u16 0, .int .i64 0, .int .i64 0, .int .i64 0, .int .i64 0, .int .i64 0, .int .i64 0, .int .i64 0, .int .i64 0, .int .i64 0, .int .i64 0, .int .i64 0, .int .i64 0, .int .u32 0, .int .u32 0, .slice none 0 0]) ∧ Below w.heap.size w w' := by
  have hcm : msgC m (.slice p L cap) = #[.int .i64 2, .int .u16 m.seq, .int .u16 m.cmd.seq, .int .u8 m.cmd.but, .int .i8 m.cmd.dx, .int .i8 m.cmd.dy, .int .i64 m.cmd.tk, .int .u16 m.prov, .int .i64 m.id, .int .i64 m.shot, .int .i64 m.dir.x, .int .i64 m.dir.y, .int .i64 m.dir.z, .int .i64 m.why, .int .i64 m.pos.x, .int .i64 m.pos.y, .int .i64 m.pos.z, .int .i64 m.vel.x, .int .i64 m.vel.y, .int .i64 m.vel.z, .int .u32 m.tick, .int .u32 m.base, .slice p L cap] := by unfold msgC; rw [hk]
  rw [hcm]
  clear hcm hk
  have A0 := (Bq.new w 40 #[.int .i64 2, .int .u16 m.seq, .int .u16 m.cmd.seq, .int .u8 m.cmd.but, .int .i8 m.cmd.dx, .int .i8 m.cmd.dy, .int .i64 m.cmd.tk, .int .u16 m.prov, .int .i64 m.id, .int .i64 m.shot, .int .i64 m.dir.x, .int .i64 m.dir.y, .int .i64 m.dir.z, .int .i64 m.why, .int .i64 m.pos.x, .int .i64 m.pos.y, .int .i64 m.pos.z, .int .i64 m.vel.x, .int .i64 m.vel.y, .int .i64 m.vel.z, .int .u32 m.tick, .int .u32 m.base, .slice p L cap]).alloc (.cells zMsW 40)
  have hO := OX.start w #[.int .i64 2, .int .u16 m.seq, .int .u16 m.cmd.seq, .int .u8 m.cmd.but, .int .i8 m.cmd.dx, .int .i8 m.cmd.dy, .int .i64 m.cmd.tk, .int .u16 m.prov, .int .i64 m.id, .int .i64 m.shot, .int .i64 m.dir.x, .int .i64 m.dir.y, .int .i64 m.dir.z, .int .i64 m.why, .int .i64 m.pos.x, .int .i64 m.pos.y, .int .i64 m.pos.z, .int .i64 m.vel.x, .int .i64 m.vel.y, .int .i64 m.vel.z, .int .u32 m.tick, .int .u32 m.base, .slice p L cap] #[.int .i64 2, .int .u16 0, .int .u16 0, .int .u8 0, .int .i8 0, .int .i8 0, .int .i64 0, .int .u16 0, .int .i64 0, .int .i64 0, .int .i64 0, .int .i64 0, .int .i64 0, .int .i64 0, .int .i64 0, .int .i64 0, .int .i64 0, .int .i64 0, .int .i64 0, .int .i64 0, .int .u32 0, .int .u32 0, .slice none 0 0]
  have HO := hid hO
  have hs : ((w.alloc (.cells #[.int .i64 2, .int .u16 m.seq, .int .u16 m.cmd.seq, .int .u8 m.cmd.but, .int .i8 m.cmd.dx, .int .i8 m.cmd.dy, .int .i64 m.cmd.tk, .int .u16 m.prov, .int .i64 m.id, .int .i64 m.shot, .int .i64 m.dir.x, .int .i64 m.dir.y, .int .i64 m.dir.z, .int .i64 m.why, .int .i64 m.pos.x, .int .i64 m.pos.y, .int .i64 m.pos.z, .int .i64 m.vel.x, .int .i64 m.vel.y, .int .i64 m.vel.z, .int .u32 m.tick, .int .u32 m.base, .slice p L cap] 40)).alloc (.cells zMsW 40)).heap.size = w.heap.size + 2 := by simp
  clear hO
  go_enter Try.func30, Try.ntmps30
  go_upto_region 1 with fail
  generalize Value.agg #[.int .i64 2, .int .u16 m.seq, .int .u16 m.cmd.seq, .int .u8 m.cmd.but, .int .i8 m.cmd.dx, .int .i8 m.cmd.dy, .int .i64 m.cmd.tk, .int .u16 m.prov, .int .i64 m.id, .int .i64 m.shot, .int .i64 m.dir.x, .int .i64 m.dir.y, .int .i64 m.dir.z, .int .i64 m.why, .int .i64 m.pos.x, .int .i64 m.pos.y, .int .i64 m.pos.z, .int .i64 m.vel.x, .int .i64 m.vel.y, .int .i64 m.vel.z, .int .u32 m.tick, .int .u32 m.base, .slice p L cap] = va
  generalize (w.alloc (.cells #[.int .i64 2, .int .u16 m.seq, .int .u16 m.cmd.seq, .int .u8 m.cmd.but, .int .i8 m.cmd.dx, .int .i8 m.cmd.dy, .int .i64 m.cmd.tk, .int .u16 m.prov, .int .i64 m.id, .int .i64 m.shot, .int .i64 m.dir.x, .int .i64 m.dir.y, .int .i64 m.dir.z, .int .i64 m.why, .int .i64 m.pos.x, .int .i64 m.pos.y, .int .i64 m.pos.z, .int .i64 m.vel.x, .int .i64 m.vel.y, .int .i64 m.vel.z, .int .u32 m.tick, .int .u32 m.base, .slice p L cap] 40)).alloc (.cells zMsW 40) = u0 at *
  have z0 := A0.cell (i := 0) rfl
  clear A0
  go_upto_region 2 with (first
    | (refine wpList_buildKind rfl _ rfl 2 rfl ?_)
    | (refine wpList_store_row rfl 40 _ _ rfl (w.heap.size + 2) #[.int .i64 2, .int .u16 0, .int .u16 0, .int .u8 0, .int .i8 0, .int .i8 0, .int .i64 0, .int .u16 0, .int .i64 0, .int .i64 0, .int .i64 0, .int .i64 0, .int .i64 0, .int .i64 0, .int .i64 0, .int .i64 0, .int .i64 0, .int .i64 0, .int .i64 0, .int .i64 0, .int .u32 0, .int .u32 0, .slice none 0 0] rfl rfl 40 zMsW (by rw [← hs]; exact heap_alloc_new _ _) size_msg rfl one23 ?_; rw [← hs, World.setRow_alloc_new, hs]))
  clear z0
  generalize Value.agg #[.int .i64 2, .int .u16 0, .int .u16 0, .int .u8 0, .int .i8 0, .int .i8 0, .int .i64 0, .int .u16 0, .int .i64 0, .int .i64 0, .int .i64 0, .int .i64 0, .int .i64 0, .int .i64 0, .int .i64 0, .int .i64 0, .int .i64 0, .int .i64 0, .int .i64 0, .int .i64 0, .int .u32 0, .int .u32 0, .slice none 0 0] = vb
  try simp only [hs]
  clear hs
  generalize u0.alloc (.cells #[.int .i64 2, .int .u16 0, .int .u16 0, .int .u8 0, .int .i8 0, .int .i8 0, .int .i64 0, .int .u16 0, .int .i64 0, .int .i64 0, .int .i64 0, .int .i64 0, .int .i64 0, .int .i64 0, .int .i64 0, .int .i64 0, .int .i64 0, .int .i64 0, .int .i64 0, .int .i64 0, .int .u32 0, .int .u32 0, .slice none 0 0] 40) = u1 at *
  have zk := HO.out.ax.cell (i := 0) rfl
  go_upto_region 4 with fail
  clear zk
  have s2 := HO.out.ax.cell (i := 2) rfl; have t2 := HO.out.bx.cell (i := 2) rfl
  have s3 := HO.out.ax.cell (i := 3) rfl; have t3 := HO.out.bx.cell (i := 3) rfl
  have s4 := HO.out.ax.cell (i := 4) rfl; have t4 := HO.out.bx.cell (i := 4) rfl
  have s5 := HO.out.ax.cell (i := 5) rfl; have t5 := HO.out.bx.cell (i := 5) rfl
  have s6 := HO.out.ax.cell (i := 6) rfl; have t6 := HO.out.bx.cell (i := 6) rfl
  have ft := HO.out.bx.thaw
  have hO := (((((HO.out.set 2 (.int .u16 m.cmd.seq)).set 3 (.int .u8 m.cmd.but)).set 4 (.int .i8 m.cmd.dx)).set 5 (.int .i8 m.cmd.dy)).set 6 (.int .i64 m.cmd.tk))
  simp only [List.setIfInBounds_toArray, List.set_cons_zero, List.set_cons_succ] at hO
  have HO2 := hid hO
  clear hO HO
  go_upto_region 25 with fail
  clear s2 t2 s3 t3 s4 t4 s5 t5 s6 t6 ft
  generalize (((((u1.setCell ⟨w.heap.size + 2, 2, none⟩ (.int .u16 m.cmd.seq)).setCell ⟨w.heap.size + 2, 3, none⟩ (.int .u8 m.cmd.but)).setCell ⟨w.heap.size + 2, 4, none⟩ (.int .i8 m.cmd.dx)).setCell ⟨w.heap.size + 2, 5, none⟩ (.int .i8 m.cmd.dy)).setCell ⟨w.heap.size + 2, 6, none⟩ (.int .i64 m.cmd.tk)) = x0 at *
  have HO := HO2
  clear HO2
  go_step
  refine wpList_load_row rfl 40 _ rfl (w.heap.size + 2) rfl 40 #[.int .i64 2, .int .u16 0, .int .u16 m.cmd.seq, .int .u8 m.cmd.but, .int .i8 m.cmd.dx, .int .i8 m.cmd.dy, .int .i64 m.cmd.tk, .int .u16 0, .int .i64 0, .int .i64 0, .int .i64 0, .int .i64 0, .int .i64 0, .int .i64 0, .int .i64 0, .int .i64 0, .int .i64 0, .int .i64 0, .int .i64 0, .int .i64 0, .int .u32 0, .int .u32 0, .slice none 0 0] (0, 0) _ HO.out.bx.obj Try.underlying40 rfl size_msg ?_
  refine wpList_store_row rfl 40 _ _ rfl (w.heap.size + 1) #[.int .i64 2, .int .u16 0, .int .u16 m.cmd.seq, .int .u8 m.cmd.but, .int .i8 m.cmd.dx, .int .i8 m.cmd.dy, .int .i64 m.cmd.tk, .int .u16 0, .int .i64 0, .int .i64 0, .int .i64 0, .int .i64 0, .int .i64 0, .int .i64 0, .int .i64 0, .int .i64 0, .int .i64 0, .int .i64 0, .int .i64 0, .int .i64 0, .int .u32 0, .int .u32 0, .slice none 0 0] rfl rfl 40 zMsW HO.out.zx.obj size_msg rfl one23 ?_
  go_wp2_with fail
  have E := HO.out.zx.setRow #[.int .i64 2, .int .u16 0, .int .u16 m.cmd.seq, .int .u8 m.cmd.but, .int .i8 m.cmd.dx, .int .i8 m.cmd.dy, .int .i64 m.cmd.tk, .int .u16 0, .int .i64 0, .int .i64 0, .int .i64 0, .int .i64 0, .int .i64 0, .int .i64 0, .int .i64 0, .int .i64 0, .int .i64 0, .int .i64 0, .int .i64 0, .int .i64 0, .int .u32 0, .int .u32 0, .slice none 0 0]
  have HE := below_setRowW HO.out.bel (g := w.heap.size + 1) (by omega) #[.int .i64 2, .int .u16 0, .int .u16 m.cmd.seq, .int .u8 m.cmd.but, .int .i8 m.cmd.dx, .int .i8 m.cmd.dy, .int .i64 m.cmd.tk, .int .u16 0, .int .i64 0, .int .i64 0, .int .i64 0, .int .i64 0, .int .i64 0, .int .i64 0, .int .i64 0, .int .i64 0, .int .i64 0, .int .i64 0, .int .i64 0, .int .i64 0, .int .u32 0, .int .u32 0, .slice none 0 0]
  refine bodyPost_ret (v := .agg #[.int .i64 2, .int .u16 0, .int .u16 m.cmd.seq, .int .u8 m.cmd.but, .int .i8 m.cmd.dx, .int .i8 m.cmd.dy, .int .i64 m.cmd.tk, .int .u16 0, .int .i64 0, .int .i64 0, .int .i64 0, .int .i64 0, .int .i64 0, .int .i64 0, .int .i64 0, .int .i64 0, .int .i64 0, .int .i64 0, .int .i64 0, .int .i64 0, .int .u32 0, .int .u32 0, .slice none 0 0]) ?hres ?hdef ?hend
  case hres => exact results_cell_row rfl _ _ (w.heap.size + 1) 40 #[.int .i64 2, .int .u16 0, .int .u16 m.cmd.seq, .int .u8 m.cmd.but, .int .i8 m.cmd.dx, .int .i8 m.cmd.dy, .int .i64 m.cmd.tk, .int .u16 0, .int .i64 0, .int .i64 0, .int .i64 0, .int .i64 0, .int .i64 0, .int .i64 0, .int .i64 0, .int .i64 0, .int .i64 0, .int .i64 0, .int .i64 0, .int .i64 0, .int .u32 0, .int .u32 0, .slice none 0 0] (0, 0) _ rfl E.obj Try.underlying40 rfl size_msg
  case hdef => rfl
  exact ⟨rfl, HE⟩
open Go.RowKit Go.Shelf
set_option linter.unusedVariables false
set_option linter.unusedSimpArgs false
attribute [local go_sem ↓] Go.wp_at_zero Go.wp_at_succ
set_option maxRecDepth 100000 in
set_option maxHeartbeats 8000000 in
theorem only_3 (m : Msg) (p : Option Addr) (L cap : Nat) (w : World) (hk : m.kind = 3) :
    Calls Try.prog 30 #[.agg (msgC m (.slice p L cap))] w fun e w' => e = .returned (.agg #[.int .i64 3, .int .u16 0, .int .u16 0, .int .u8 0, .int .i8 0, .int .i8 0, .int .i64 0, .int .u16 m.prov, .int .i64 0, .int .i64 m.shot, .int .i64 m.dir.x, .int .i64 m.dir.y, .int .i64 m.dir.z, .int .i64 0, .int .i64 0, .int .i64 0, .int .i64 0, .int .i64 0, .int .i64 0, .int .i64 0, .int .u32 0, .int .u32 0, .slice none 0 0]) ∧ Below w.heap.size w w' := by
  have hcm : msgC m (.slice p L cap) = #[.int .i64 3, .int .u16 m.seq, .int .u16 m.cmd.seq, .int .u8 m.cmd.but, .int .i8 m.cmd.dx, .int .i8 m.cmd.dy, .int .i64 m.cmd.tk, .int .u16 m.prov, .int .i64 m.id, .int .i64 m.shot, .int .i64 m.dir.x, .int .i64 m.dir.y, .int .i64 m.dir.z, .int .i64 m.why, .int .i64 m.pos.x, .int .i64 m.pos.y, .int .i64 m.pos.z, .int .i64 m.vel.x, .int .i64 m.vel.y, .int .i64 m.vel.z, .int .u32 m.tick, .int .u32 m.base, .slice p L cap] := by unfold msgC; rw [hk]
  rw [hcm]
  clear hcm hk
  have A0 := (Bq.new w 40 #[.int .i64 3, .int .u16 m.seq, .int .u16 m.cmd.seq, .int .u8 m.cmd.but, .int .i8 m.cmd.dx, .int .i8 m.cmd.dy, .int .i64 m.cmd.tk, .int .u16 m.prov, .int .i64 m.id, .int .i64 m.shot, .int .i64 m.dir.x, .int .i64 m.dir.y, .int .i64 m.dir.z, .int .i64 m.why, .int .i64 m.pos.x, .int .i64 m.pos.y, .int .i64 m.pos.z, .int .i64 m.vel.x, .int .i64 m.vel.y, .int .i64 m.vel.z, .int .u32 m.tick, .int .u32 m.base, .slice p L cap]).alloc (.cells zMsW 40)
  have hO := OX.start w #[.int .i64 3, .int .u16 m.seq, .int .u16 m.cmd.seq, .int .u8 m.cmd.but, .int .i8 m.cmd.dx, .int .i8 m.cmd.dy, .int .i64 m.cmd.tk, .int .u16 m.prov, .int .i64 m.id, .int .i64 m.shot, .int .i64 m.dir.x, .int .i64 m.dir.y, .int .i64 m.dir.z, .int .i64 m.why, .int .i64 m.pos.x, .int .i64 m.pos.y, .int .i64 m.pos.z, .int .i64 m.vel.x, .int .i64 m.vel.y, .int .i64 m.vel.z, .int .u32 m.tick, .int .u32 m.base, .slice p L cap] #[.int .i64 3, .int .u16 0, .int .u16 0, .int .u8 0, .int .i8 0, .int .i8 0, .int .i64 0, .int .u16 0, .int .i64 0, .int .i64 0, .int .i64 0, .int .i64 0, .int .i64 0, .int .i64 0, .int .i64 0, .int .i64 0, .int .i64 0, .int .i64 0, .int .i64 0, .int .i64 0, .int .u32 0, .int .u32 0, .slice none 0 0]
  have HO := hid hO
  have hs : ((w.alloc (.cells #[.int .i64 3, .int .u16 m.seq, .int .u16 m.cmd.seq, .int .u8 m.cmd.but, .int .i8 m.cmd.dx, .int .i8 m.cmd.dy, .int .i64 m.cmd.tk, .int .u16 m.prov, .int .i64 m.id, .int .i64 m.shot, .int .i64 m.dir.x, .int .i64 m.dir.y, .int .i64 m.dir.z, .int .i64 m.why, .int .i64 m.pos.x, .int .i64 m.pos.y, .int .i64 m.pos.z, .int .i64 m.vel.x, .int .i64 m.vel.y, .int .i64 m.vel.z, .int .u32 m.tick, .int .u32 m.base, .slice p L cap] 40)).alloc (.cells zMsW 40)).heap.size = w.heap.size + 2 := by simp
  clear hO
  go_enter Try.func30, Try.ntmps30
  go_upto_region 1 with fail
  generalize Value.agg #[.int .i64 3, .int .u16 m.seq, .int .u16 m.cmd.seq, .int .u8 m.cmd.but, .int .i8 m.cmd.dx, .int .i8 m.cmd.dy, .int .i64 m.cmd.tk, .int .u16 m.prov, .int .i64 m.id, .int .i64 m.shot, .int .i64 m.dir.x, .int .i64 m.dir.y, .int .i64 m.dir.z, .int .i64 m.why, .int .i64 m.pos.x, .int .i64 m.pos.y, .int .i64 m.pos.z, .int .i64 m.vel.x, .int .i64 m.vel.y, .int .i64 m.vel.z, .int .u32 m.tick, .int .u32 m.base, .slice p L cap] = va
  generalize (w.alloc (.cells #[.int .i64 3, .int .u16 m.seq, .int .u16 m.cmd.seq, .int .u8 m.cmd.but, .int .i8 m.cmd.dx, .int .i8 m.cmd.dy, .int .i64 m.cmd.tk, .int .u16 m.prov, .int .i64 m.id, .int .i64 m.shot, .int .i64 m.dir.x, .int .i64 m.dir.y, .int .i64 m.dir.z, .int .i64 m.why, .int .i64 m.pos.x, .int .i64 m.pos.y, .int .i64 m.pos.z, .int .i64 m.vel.x, .int .i64 m.vel.y, .int .i64 m.vel.z, .int .u32 m.tick, .int .u32 m.base, .slice p L cap] 40)).alloc (.cells zMsW 40) = u0 at *
  have z0 := A0.cell (i := 0) rfl
  clear A0
  go_upto_region 2 with (first
    | (refine wpList_buildKind rfl _ rfl 3 rfl ?_)
    | (refine wpList_store_row rfl 40 _ _ rfl (w.heap.size + 2) #[.int .i64 3, .int .u16 0, .int .u16 0, .int .u8 0, .int .i8 0, .int .i8 0, .int .i64 0, .int .u16 0, .int .i64 0, .int .i64 0, .int .i64 0, .int .i64 0, .int .i64 0, .int .i64 0, .int .i64 0, .int .i64 0, .int .i64 0, .int .i64 0, .int .i64 0, .int .i64 0, .int .u32 0, .int .u32 0, .slice none 0 0] rfl rfl 40 zMsW (by rw [← hs]; exact heap_alloc_new _ _) size_msg rfl one23 ?_; rw [← hs, World.setRow_alloc_new, hs]))
  clear z0
  generalize Value.agg #[.int .i64 3, .int .u16 0, .int .u16 0, .int .u8 0, .int .i8 0, .int .i8 0, .int .i64 0, .int .u16 0, .int .i64 0, .int .i64 0, .int .i64 0, .int .i64 0, .int .i64 0, .int .i64 0, .int .i64 0, .int .i64 0, .int .i64 0, .int .i64 0, .int .i64 0, .int .i64 0, .int .u32 0, .int .u32 0, .slice none 0 0] = vb
  try simp only [hs]
  clear hs
  generalize u0.alloc (.cells #[.int .i64 3, .int .u16 0, .int .u16 0, .int .u8 0, .int .i8 0, .int .i8 0, .int .i64 0, .int .u16 0, .int .i64 0, .int .i64 0, .int .i64 0, .int .i64 0, .int .i64 0, .int .i64 0, .int .i64 0, .int .i64 0, .int .i64 0, .int .i64 0, .int .i64 0, .int .i64 0, .int .u32 0, .int .u32 0, .slice none 0 0] 40) = u1 at *
  have zk := HO.out.ax.cell (i := 0) rfl
  go_upto_region 6 with fail
  clear zk
  have s7 := HO.out.ax.cell (i := 7) rfl; have t7 := HO.out.bx.cell (i := 7) rfl
  have ft := HO.out.bx.thaw
  have hO := (HO.out.set 7 (.int .u16 m.prov))
  simp only [List.setIfInBounds_toArray, List.set_cons_zero, List.set_cons_succ] at hO
  have HO2 := hid hO
  clear hO HO
  go_upto_region 7 with fail
  clear s7 t7 ft
  generalize (u1.setCell ⟨w.heap.size + 2, 7, none⟩ (.int .u16 m.prov)) = x0 at *
  have HO := HO2
  clear HO2
  have s9 := HO.out.ax.cell (i := 9) rfl; have t9 := HO.out.bx.cell (i := 9) rfl
  have ft := HO.out.bx.thaw
  have hO := (HO.out.set 9 (.int .i64 m.shot))
  simp only [List.setIfInBounds_toArray, List.set_cons_zero, List.set_cons_succ] at hO
  have HO2 := hid hO
  clear hO HO
  go_upto_region 8 with fail
  clear s9 t9 ft
  generalize (x0.setCell ⟨w.heap.size + 2, 9, none⟩ (.int .i64 m.shot)) = x1 at *
  have HO := HO2
  clear HO2
  have s10 := HO.out.ax.cell (i := 10) rfl; have t10 := HO.out.bx.cell (i := 10) rfl
  have s11 := HO.out.ax.cell (i := 11) rfl; have t11 := HO.out.bx.cell (i := 11) rfl
  have s12 := HO.out.ax.cell (i := 12) rfl; have t12 := HO.out.bx.cell (i := 12) rfl
  have ft := HO.out.bx.thaw
  have hO := (((HO.out.set 10 (.int .i64 m.dir.x)).set 11 (.int .i64 m.dir.y)).set 12 (.int .i64 m.dir.z))
  simp only [List.setIfInBounds_toArray, List.set_cons_zero, List.set_cons_succ] at hO
  have HO2 := hid hO
  clear hO HO
  go_upto_region 25 with fail
  clear s10 t10 s11 t11 s12 t12 ft
  generalize (((x1.setCell ⟨w.heap.size + 2, 10, none⟩ (.int .i64 m.dir.x)).setCell ⟨w.heap.size + 2, 11, none⟩ (.int .i64 m.dir.y)).setCell ⟨w.heap.size + 2, 12, none⟩ (.int .i64 m.dir.z)) = x2 at *
  have HO := HO2
  clear HO2
  go_step
  refine wpList_load_row rfl 40 _ rfl (w.heap.size + 2) rfl 40 #[.int .i64 3, .int .u16 0, .int .u16 0, .int .u8 0, .int .i8 0, .int .i8 0, .int .i64 0, .int .u16 m.prov, .int .i64 0, .int .i64 m.shot, .int .i64 m.dir.x, .int .i64 m.dir.y, .int .i64 m.dir.z, .int .i64 0, .int .i64 0, .int .i64 0, .int .i64 0, .int .i64 0, .int .i64 0, .int .i64 0, .int .u32 0, .int .u32 0, .slice none 0 0] (0, 0) _ HO.out.bx.obj Try.underlying40 rfl size_msg ?_
  refine wpList_store_row rfl 40 _ _ rfl (w.heap.size + 1) #[.int .i64 3, .int .u16 0, .int .u16 0, .int .u8 0, .int .i8 0, .int .i8 0, .int .i64 0, .int .u16 m.prov, .int .i64 0, .int .i64 m.shot, .int .i64 m.dir.x, .int .i64 m.dir.y, .int .i64 m.dir.z, .int .i64 0, .int .i64 0, .int .i64 0, .int .i64 0, .int .i64 0, .int .i64 0, .int .i64 0, .int .u32 0, .int .u32 0, .slice none 0 0] rfl rfl 40 zMsW HO.out.zx.obj size_msg rfl one23 ?_
  go_wp2_with fail
  have E := HO.out.zx.setRow #[.int .i64 3, .int .u16 0, .int .u16 0, .int .u8 0, .int .i8 0, .int .i8 0, .int .i64 0, .int .u16 m.prov, .int .i64 0, .int .i64 m.shot, .int .i64 m.dir.x, .int .i64 m.dir.y, .int .i64 m.dir.z, .int .i64 0, .int .i64 0, .int .i64 0, .int .i64 0, .int .i64 0, .int .i64 0, .int .i64 0, .int .u32 0, .int .u32 0, .slice none 0 0]
  have HE := below_setRowW HO.out.bel (g := w.heap.size + 1) (by omega) #[.int .i64 3, .int .u16 0, .int .u16 0, .int .u8 0, .int .i8 0, .int .i8 0, .int .i64 0, .int .u16 m.prov, .int .i64 0, .int .i64 m.shot, .int .i64 m.dir.x, .int .i64 m.dir.y, .int .i64 m.dir.z, .int .i64 0, .int .i64 0, .int .i64 0, .int .i64 0, .int .i64 0, .int .i64 0, .int .i64 0, .int .u32 0, .int .u32 0, .slice none 0 0]
  refine bodyPost_ret (v := .agg #[.int .i64 3, .int .u16 0, .int .u16 0, .int .u8 0, .int .i8 0, .int .i8 0, .int .i64 0, .int .u16 m.prov, .int .i64 0, .int .i64 m.shot, .int .i64 m.dir.x, .int .i64 m.dir.y, .int .i64 m.dir.z, .int .i64 0, .int .i64 0, .int .i64 0, .int .i64 0, .int .i64 0, .int .i64 0, .int .i64 0, .int .u32 0, .int .u32 0, .slice none 0 0]) ?hres ?hdef ?hend
  case hres => exact results_cell_row rfl _ _ (w.heap.size + 1) 40 #[.int .i64 3, .int .u16 0, .int .u16 0, .int .u8 0, .int .i8 0, .int .i8 0, .int .i64 0, .int .u16 m.prov, .int .i64 0, .int .i64 m.shot, .int .i64 m.dir.x, .int .i64 m.dir.y, .int .i64 m.dir.z, .int .i64 0, .int .i64 0, .int .i64 0, .int .i64 0, .int .i64 0, .int .i64 0, .int .i64 0, .int .u32 0, .int .u32 0, .slice none 0 0] (0, 0) _ rfl E.obj Try.underlying40 rfl size_msg
  case hdef => rfl
  exact ⟨rfl, HE⟩
open Go.RowKit Go.Shelf
set_option linter.unusedVariables false
set_option linter.unusedSimpArgs false
attribute [local go_sem ↓] Go.wp_at_zero Go.wp_at_succ
set_option maxRecDepth 100000 in
set_option maxHeartbeats 8000000 in
theorem only_5 (m : Msg) (p : Option Addr) (L cap : Nat) (w : World) (hk : m.kind = 5) :
    Calls Try.prog 30 #[.agg (msgC m (.slice p L cap))] w fun e w' => e = .returned (.agg #[.int .i64 5, .int .u16 0, .int .u16 0, .int .u8 0, .int .i8 0, .int .i8 0, .int .i64 0, .int .u16 0, .int .i64 m.id, .int .i64 0, .int .i64 0, .int .i64 0, .int .i64 0, .int .i64 0, .int .i64 0, .int .i64 0, .int .i64 0, .int .i64 0, .int .i64 0, .int .i64 0, .int .u32 0, .int .u32 0, .slice none 0 0]) ∧ Below w.heap.size w w' := by
  have hcm : msgC m (.slice p L cap) = #[.int .i64 5, .int .u16 m.seq, .int .u16 m.cmd.seq, .int .u8 m.cmd.but, .int .i8 m.cmd.dx, .int .i8 m.cmd.dy, .int .i64 m.cmd.tk, .int .u16 m.prov, .int .i64 m.id, .int .i64 m.shot, .int .i64 m.dir.x, .int .i64 m.dir.y, .int .i64 m.dir.z, .int .i64 m.why, .int .i64 m.pos.x, .int .i64 m.pos.y, .int .i64 m.pos.z, .int .i64 m.vel.x, .int .i64 m.vel.y, .int .i64 m.vel.z, .int .u32 m.tick, .int .u32 m.base, .slice p L cap] := by unfold msgC; rw [hk]
  rw [hcm]
  clear hcm hk
  have A0 := (Bq.new w 40 #[.int .i64 5, .int .u16 m.seq, .int .u16 m.cmd.seq, .int .u8 m.cmd.but, .int .i8 m.cmd.dx, .int .i8 m.cmd.dy, .int .i64 m.cmd.tk, .int .u16 m.prov, .int .i64 m.id, .int .i64 m.shot, .int .i64 m.dir.x, .int .i64 m.dir.y, .int .i64 m.dir.z, .int .i64 m.why, .int .i64 m.pos.x, .int .i64 m.pos.y, .int .i64 m.pos.z, .int .i64 m.vel.x, .int .i64 m.vel.y, .int .i64 m.vel.z, .int .u32 m.tick, .int .u32 m.base, .slice p L cap]).alloc (.cells zMsW 40)
  have hO := OX.start w #[.int .i64 5, .int .u16 m.seq, .int .u16 m.cmd.seq, .int .u8 m.cmd.but, .int .i8 m.cmd.dx, .int .i8 m.cmd.dy, .int .i64 m.cmd.tk, .int .u16 m.prov, .int .i64 m.id, .int .i64 m.shot, .int .i64 m.dir.x, .int .i64 m.dir.y, .int .i64 m.dir.z, .int .i64 m.why, .int .i64 m.pos.x, .int .i64 m.pos.y, .int .i64 m.pos.z, .int .i64 m.vel.x, .int .i64 m.vel.y, .int .i64 m.vel.z, .int .u32 m.tick, .int .u32 m.base, .slice p L cap] #[.int .i64 5, .int .u16 0, .int .u16 0, .int .u8 0, .int .i8 0, .int .i8 0, .int .i64 0, .int .u16 0, .int .i64 0, .int .i64 0, .int .i64 0, .int .i64 0, .int .i64 0, .int .i64 0, .int .i64 0, .int .i64 0, .int .i64 0, .int .i64 0, .int .i64 0, .int .i64 0, .int .u32 0, .int .u32 0, .slice none 0 0]
  have HO := hid hO
  have hs : ((w.alloc (.cells #[.int .i64 5, .int .u16 m.seq, .int .u16 m.cmd.seq, .int .u8 m.cmd.but, .int .i8 m.cmd.dx, .int .i8 m.cmd.dy, .int .i64 m.cmd.tk, .int .u16 m.prov, .int .i64 m.id, .int .i64 m.shot, .int .i64 m.dir.x, .int .i64 m.dir.y, .int .i64 m.dir.z, .int .i64 m.why, .int .i64 m.pos.x, .int .i64 m.pos.y, .int .i64 m.pos.z, .int .i64 m.vel.x, .int .i64 m.vel.y, .int .i64 m.vel.z, .int .u32 m.tick, .int .u32 m.base, .slice p L cap] 40)).alloc (.cells zMsW 40)).heap.size = w.heap.size + 2 := by simp
  clear hO
  go_enter Try.func30, Try.ntmps30
  go_upto_region 1 with fail
  generalize Value.agg #[.int .i64 5, .int .u16 m.seq, .int .u16 m.cmd.seq, .int .u8 m.cmd.but, .int .i8 m.cmd.dx, .int .i8 m.cmd.dy, .int .i64 m.cmd.tk, .int .u16 m.prov, .int .i64 m.id, .int .i64 m.shot, .int .i64 m.dir.x, .int .i64 m.dir.y, .int .i64 m.dir.z, .int .i64 m.why, .int .i64 m.pos.x, .int .i64 m.pos.y, .int .i64 m.pos.z, .int .i64 m.vel.x, .int .i64 m.vel.y, .int .i64 m.vel.z, .int .u32 m.tick, .int .u32 m.base, .slice p L cap] = va
  generalize (w.alloc (.cells #[.int .i64 5, .int .u16 m.seq, .int .u16 m.cmd.seq, .int .u8 m.cmd.but, .int .i8 m.cmd.dx, .int .i8 m.cmd.dy, .int .i64 m.cmd.tk, .int .u16 m.prov, .int .i64 m.id, .int .i64 m.shot, .int .i64 m.dir.x, .int .i64 m.dir.y, .int .i64 m.dir.z, .int .i64 m.why, .int .i64 m.pos.x, .int .i64 m.pos.y, .int .i64 m.pos.z, .int .i64 m.vel.x, .int .i64 m.vel.y, .int .i64 m.vel.z, .int .u32 m.tick, .int .u32 m.base, .slice p L cap] 40)).alloc (.cells zMsW 40) = u0 at *
  have z0 := A0.cell (i := 0) rfl
  clear A0
  go_upto_region 2 with (first
    | (refine wpList_buildKind rfl _ rfl 5 rfl ?_)
    | (refine wpList_store_row rfl 40 _ _ rfl (w.heap.size + 2) #[.int .i64 5, .int .u16 0, .int .u16 0, .int .u8 0, .int .i8 0, .int .i8 0, .int .i64 0, .int .u16 0, .int .i64 0, .int .i64 0, .int .i64 0, .int .i64 0, .int .i64 0, .int .i64 0, .int .i64 0, .int .i64 0, .int .i64 0, .int .i64 0, .int .i64 0, .int .i64 0, .int .u32 0, .int .u32 0, .slice none 0 0] rfl rfl 40 zMsW (by rw [← hs]; exact heap_alloc_new _ _) size_msg rfl one23 ?_; rw [← hs, World.setRow_alloc_new, hs]))
  clear z0
  generalize Value.agg #[.int .i64 5, .int .u16 0, .int .u16 0, .int .u8 0, .int .i8 0, .int .i8 0, .int .i64 0, .int .u16 0, .int .i64 0, .int .i64 0, .int .i64 0, .int .i64 0, .int .i64 0, .int .i64 0, .int .i64 0, .int .i64 0, .int .i64 0, .int .i64 0, .int .i64 0, .int .i64 0, .int .u32 0, .int .u32 0, .slice none 0 0] = vb
  try simp only [hs]
  clear hs
  generalize u0.alloc (.cells #[.int .i64 5, .int .u16 0, .int .u16 0, .int .u8 0, .int .i8 0, .int .i8 0, .int .i64 0, .int .u16 0, .int .i64 0, .int .i64 0, .int .i64 0, .int .i64 0, .int .i64 0, .int .i64 0, .int .i64 0, .int .i64 0, .int .i64 0, .int .i64 0, .int .i64 0, .int .i64 0, .int .u32 0, .int .u32 0, .slice none 0 0] 40) = u1 at *
  have zk := HO.out.ax.cell (i := 0) rfl
  go_upto_region 10 with fail
  clear zk
  have s8 := HO.out.ax.cell (i := 8) rfl; have t8 := HO.out.bx.cell (i := 8) rfl
  have ft := HO.out.bx.thaw
  have hO := (HO.out.set 8 (.int .i64 m.id))
  simp only [List.setIfInBounds_toArray, List.set_cons_zero, List.set_cons_succ] at hO
  have HO2 := hid hO
  clear hO HO
  go_upto_region 25 with fail
  clear s8 t8 ft
  generalize (u1.setCell ⟨w.heap.size + 2, 8, none⟩ (.int .i64 m.id)) = x0 at *
  have HO := HO2
  clear HO2
  go_step
  refine wpList_load_row rfl 40 _ rfl (w.heap.size + 2) rfl 40 #[.int .i64 5, .int .u16 0, .int .u16 0, .int .u8 0, .int .i8 0, .int .i8 0, .int .i64 0, .int .u16 0, .int .i64 m.id, .int .i64 0, .int .i64 0, .int .i64 0, .int .i64 0, .int .i64 0, .int .i64 0, .int .i64 0, .int .i64 0, .int .i64 0, .int .i64 0, .int .i64 0, .int .u32 0, .int .u32 0, .slice none 0 0] (0, 0) _ HO.out.bx.obj Try.underlying40 rfl size_msg ?_
  refine wpList_store_row rfl 40 _ _ rfl (w.heap.size + 1) #[.int .i64 5, .int .u16 0, .int .u16 0, .int .u8 0, .int .i8 0, .int .i8 0, .int .i64 0, .int .u16 0, .int .i64 m.id, .int .i64 0, .int .i64 0, .int .i64 0, .int .i64 0, .int .i64 0, .int .i64 0, .int .i64 0, .int .i64 0, .int .i64 0, .int .i64 0, .int .i64 0, .int .u32 0, .int .u32 0, .slice none 0 0] rfl rfl 40 zMsW HO.out.zx.obj size_msg rfl one23 ?_
  go_wp2_with fail
  have E := HO.out.zx.setRow #[.int .i64 5, .int .u16 0, .int .u16 0, .int .u8 0, .int .i8 0, .int .i8 0, .int .i64 0, .int .u16 0, .int .i64 m.id, .int .i64 0, .int .i64 0, .int .i64 0, .int .i64 0, .int .i64 0, .int .i64 0, .int .i64 0, .int .i64 0, .int .i64 0, .int .i64 0, .int .i64 0, .int .u32 0, .int .u32 0, .slice none 0 0]
  have HE := below_setRowW HO.out.bel (g := w.heap.size + 1) (by omega) #[.int .i64 5, .int .u16 0, .int .u16 0, .int .u8 0, .int .i8 0, .int .i8 0, .int .i64 0, .int .u16 0, .int .i64 m.id, .int .i64 0, .int .i64 0, .int .i64 0, .int .i64 0, .int .i64 0, .int .i64 0, .int .i64 0, .int .i64 0, .int .i64 0, .int .i64 0, .int .i64 0, .int .u32 0, .int .u32 0, .slice none 0 0]
  refine bodyPost_ret (v := .agg #[.int .i64 5, .int .u16 0, .int .u16 0, .int .u8 0, .int .i8 0, .int .i8 0, .int .i64 0, .int .u16 0, .int .i64 m.id, .int .i64 0, .int .i64 0, .int .i64 0, .int .i64 0, .int .i64 0, .int .i64 0, .int .i64 0, .int .i64 0, .int .i64 0, .int .i64 0, .int .i64 0, .int .u32 0, .int .u32 0, .slice none 0 0]) ?hres ?hdef ?hend
  case hres => exact results_cell_row rfl _ _ (w.heap.size + 1) 40 #[.int .i64 5, .int .u16 0, .int .u16 0, .int .u8 0, .int .i8 0, .int .i8 0, .int .i64 0, .int .u16 0, .int .i64 m.id, .int .i64 0, .int .i64 0, .int .i64 0, .int .i64 0, .int .i64 0, .int .i64 0, .int .i64 0, .int .i64 0, .int .i64 0, .int .i64 0, .int .i64 0, .int .u32 0, .int .u32 0, .slice none 0 0] (0, 0) _ rfl E.obj Try.underlying40 rfl size_msg
  case hdef => rfl
  exact ⟨rfl, HE⟩
open Go.RowKit Go.Shelf
set_option linter.unusedVariables false
set_option linter.unusedSimpArgs false
attribute [local go_sem ↓] Go.wp_at_zero Go.wp_at_succ
set_option maxRecDepth 100000 in
set_option maxHeartbeats 8000000 in
theorem only_6 (m : Msg) (p : Option Addr) (L cap : Nat) (w : World) (hk : m.kind = 6) :
    Calls Try.prog 30 #[.agg (msgC m (.slice p L cap))] w fun e w' => e = .returned (.agg #[.int .i64 6, .int .u16 m.seq, .int .u16 0, .int .u8 0, .int .i8 0, .int .i8 0, .int .i64 0, .int .u16 0, .int .i64 0, .int .i64 0, .int .i64 0, .int .i64 0, .int .i64 0, .int .i64 0, .int .i64 m.pos.x, .int .i64 m.pos.y, .int .i64 m.pos.z, .int .i64 m.vel.x, .int .i64 m.vel.y, .int .i64 m.vel.z, .int .u32 0, .int .u32 0, .slice none 0 0]) ∧ Below w.heap.size w w' := by
  have hcm : msgC m (.slice p L cap) = #[.int .i64 6, .int .u16 m.seq, .int .u16 m.cmd.seq, .int .u8 m.cmd.but, .int .i8 m.cmd.dx, .int .i8 m.cmd.dy, .int .i64 m.cmd.tk, .int .u16 m.prov, .int .i64 m.id, .int .i64 m.shot, .int .i64 m.dir.x, .int .i64 m.dir.y, .int .i64 m.dir.z, .int .i64 m.why, .int .i64 m.pos.x, .int .i64 m.pos.y, .int .i64 m.pos.z, .int .i64 m.vel.x, .int .i64 m.vel.y, .int .i64 m.vel.z, .int .u32 m.tick, .int .u32 m.base, .slice p L cap] := by unfold msgC; rw [hk]
  rw [hcm]
  clear hcm hk
  have A0 := (Bq.new w 40 #[.int .i64 6, .int .u16 m.seq, .int .u16 m.cmd.seq, .int .u8 m.cmd.but, .int .i8 m.cmd.dx, .int .i8 m.cmd.dy, .int .i64 m.cmd.tk, .int .u16 m.prov, .int .i64 m.id, .int .i64 m.shot, .int .i64 m.dir.x, .int .i64 m.dir.y, .int .i64 m.dir.z, .int .i64 m.why, .int .i64 m.pos.x, .int .i64 m.pos.y, .int .i64 m.pos.z, .int .i64 m.vel.x, .int .i64 m.vel.y, .int .i64 m.vel.z, .int .u32 m.tick, .int .u32 m.base, .slice p L cap]).alloc (.cells zMsW 40)
  have hO := OX.start w #[.int .i64 6, .int .u16 m.seq, .int .u16 m.cmd.seq, .int .u8 m.cmd.but, .int .i8 m.cmd.dx, .int .i8 m.cmd.dy, .int .i64 m.cmd.tk, .int .u16 m.prov, .int .i64 m.id, .int .i64 m.shot, .int .i64 m.dir.x, .int .i64 m.dir.y, .int .i64 m.dir.z, .int .i64 m.why, .int .i64 m.pos.x, .int .i64 m.pos.y, .int .i64 m.pos.z, .int .i64 m.vel.x, .int .i64 m.vel.y, .int .i64 m.vel.z, .int .u32 m.tick, .int .u32 m.base, .slice p L cap] #[.int .i64 6, .int .u16 0, .int .u16 0, .int .u8 0, .int .i8 0, .int .i8 0, .int .i64 0, .int .u16 0, .int .i64 0, .int .i64 0, .int .i64 0, .int .i64 0, .int .i64 0, .int .i64 0, .int .i64 0, .int .i64 0, .int .i64 0, .int .i64 0, .int .i64 0, .int .i64 0, .int .u32 0, .int .u32 0, .slice none 0 0]
  have HO := hid hO
  have hs : ((w.alloc (.cells #[.int .i64 6, .int .u16 m.seq, .int .u16 m.cmd.seq, .int .u8 m.cmd.but, .int .i8 m.cmd.dx, .int .i8 m.cmd.dy, .int .i64 m.cmd.tk, .int .u16 m.prov, .int .i64 m.id, .int .i64 m.shot, .int .i64 m.dir.x, .int .i64 m.dir.y, .int .i64 m.dir.z, .int .i64 m.why, .int .i64 m.pos.x, .int .i64 m.pos.y, .int .i64 m.pos.z, .int .i64 m.vel.x, .int .i64 m.vel.y, .int .i64 m.vel.z, .int .u32 m.tick, .int .u32 m.base, .slice p L cap] 40)).alloc (.cells zMsW 40)).heap.size = w.heap.size + 2 := by simp
  clear hO
  go_enter Try.func30, Try.ntmps30
  go_upto_region 1 with fail
  generalize Value.agg #[.int .i64 6, .int .u16 m.seq, .int .u16 m.cmd.seq, .int .u8 m.cmd.but, .int .i8 m.cmd.dx, .int .i8 m.cmd.dy, .int .i64 m.cmd.tk, .int .u16 m.prov, .int .i64 m.id, .int .i64 m.shot, .int .i64 m.dir.x, .int .i64 m.dir.y, .int .i64 m.dir.z, .int .i64 m.why, .int .i64 m.pos.x, .int .i64 m.pos.y, .int .i64 m.pos.z, .int .i64 m.vel.x, .int .i64 m.vel.y, .int .i64 m.vel.z, .int .u32 m.tick, .int .u32 m.base, .slice p L cap] = va
  generalize (w.alloc (.cells #[.int .i64 6, .int .u16 m.seq, .int .u16 m.cmd.seq, .int .u8 m.cmd.but, .int .i8 m.cmd.dx, .int .i8 m.cmd.dy, .int .i64 m.cmd.tk, .int .u16 m.prov, .int .i64 m.id, .int .i64 m.shot, .int .i64 m.dir.x, .int .i64 m.dir.y, .int .i64 m.dir.z, .int .i64 m.why, .int .i64 m.pos.x, .int .i64 m.pos.y, .int .i64 m.pos.z, .int .i64 m.vel.x, .int .i64 m.vel.y, .int .i64 m.vel.z, .int .u32 m.tick, .int .u32 m.base, .slice p L cap] 40)).alloc (.cells zMsW 40) = u0 at *
  have z0 := A0.cell (i := 0) rfl
  clear A0
  go_upto_region 2 with (first
    | (refine wpList_buildKind rfl _ rfl 6 rfl ?_)
    | (refine wpList_store_row rfl 40 _ _ rfl (w.heap.size + 2) #[.int .i64 6, .int .u16 0, .int .u16 0, .int .u8 0, .int .i8 0, .int .i8 0, .int .i64 0, .int .u16 0, .int .i64 0, .int .i64 0, .int .i64 0, .int .i64 0, .int .i64 0, .int .i64 0, .int .i64 0, .int .i64 0, .int .i64 0, .int .i64 0, .int .i64 0, .int .i64 0, .int .u32 0, .int .u32 0, .slice none 0 0] rfl rfl 40 zMsW (by rw [← hs]; exact heap_alloc_new _ _) size_msg rfl one23 ?_; rw [← hs, World.setRow_alloc_new, hs]))
  clear z0
  generalize Value.agg #[.int .i64 6, .int .u16 0, .int .u16 0, .int .u8 0, .int .i8 0, .int .i8 0, .int .i64 0, .int .u16 0, .int .i64 0, .int .i64 0, .int .i64 0, .int .i64 0, .int .i64 0, .int .i64 0, .int .i64 0, .int .i64 0, .int .i64 0, .int .i64 0, .int .i64 0, .int .i64 0, .int .u32 0, .int .u32 0, .slice none 0 0] = vb
  try simp only [hs]
  clear hs
  generalize u0.alloc (.cells #[.int .i64 6, .int .u16 0, .int .u16 0, .int .u8 0, .int .i8 0, .int .i8 0, .int .i64 0, .int .u16 0, .int .i64 0, .int .i64 0, .int .i64 0, .int .i64 0, .int .i64 0, .int .i64 0, .int .i64 0, .int .i64 0, .int .i64 0, .int .i64 0, .int .i64 0, .int .i64 0, .int .u32 0, .int .u32 0, .slice none 0 0] 40) = u1 at *
  have zk := HO.out.ax.cell (i := 0) rfl
  go_upto_region 12 with fail
  clear zk
  have s1 := HO.out.ax.cell (i := 1) rfl; have t1 := HO.out.bx.cell (i := 1) rfl
  have ft := HO.out.bx.thaw
  have hO := (HO.out.set 1 (.int .u16 m.seq))
  simp only [List.setIfInBounds_toArray, List.set_cons_zero, List.set_cons_succ] at hO
  have HO2 := hid hO
  clear hO HO
  go_upto_region 13 with fail
  clear s1 t1 ft
  generalize (u1.setCell ⟨w.heap.size + 2, 1, none⟩ (.int .u16 m.seq)) = x0 at *
  have HO := HO2
  clear HO2
  have s14 := HO.out.ax.cell (i := 14) rfl; have t14 := HO.out.bx.cell (i := 14) rfl
  have s15 := HO.out.ax.cell (i := 15) rfl; have t15 := HO.out.bx.cell (i := 15) rfl
  have s16 := HO.out.ax.cell (i := 16) rfl; have t16 := HO.out.bx.cell (i := 16) rfl
  have ft := HO.out.bx.thaw
  have hO := (((HO.out.set 14 (.int .i64 m.pos.x)).set 15 (.int .i64 m.pos.y)).set 16 (.int .i64 m.pos.z))
  simp only [List.setIfInBounds_toArray, List.set_cons_zero, List.set_cons_succ] at hO
  have HO2 := hid hO
  clear hO HO
  go_upto_region 14 with fail
  clear s14 t14 s15 t15 s16 t16 ft
  generalize (((x0.setCell ⟨w.heap.size + 2, 14, none⟩ (.int .i64 m.pos.x)).setCell ⟨w.heap.size + 2, 15, none⟩ (.int .i64 m.pos.y)).setCell ⟨w.heap.size + 2, 16, none⟩ (.int .i64 m.pos.z)) = x1 at *
  have HO := HO2
  clear HO2
  have s17 := HO.out.ax.cell (i := 17) rfl; have t17 := HO.out.bx.cell (i := 17) rfl
  have s18 := HO.out.ax.cell (i := 18) rfl; have t18 := HO.out.bx.cell (i := 18) rfl
  have s19 := HO.out.ax.cell (i := 19) rfl; have t19 := HO.out.bx.cell (i := 19) rfl
  have ft := HO.out.bx.thaw
  have hO := (((HO.out.set 17 (.int .i64 m.vel.x)).set 18 (.int .i64 m.vel.y)).set 19 (.int .i64 m.vel.z))
  simp only [List.setIfInBounds_toArray, List.set_cons_zero, List.set_cons_succ] at hO
  have HO2 := hid hO
  clear hO HO
  go_upto_region 25 with fail
  clear s17 t17 s18 t18 s19 t19 ft
  generalize (((x1.setCell ⟨w.heap.size + 2, 17, none⟩ (.int .i64 m.vel.x)).setCell ⟨w.heap.size + 2, 18, none⟩ (.int .i64 m.vel.y)).setCell ⟨w.heap.size + 2, 19, none⟩ (.int .i64 m.vel.z)) = x2 at *
  have HO := HO2
  clear HO2
  go_step
  refine wpList_load_row rfl 40 _ rfl (w.heap.size + 2) rfl 40 #[.int .i64 6, .int .u16 m.seq, .int .u16 0, .int .u8 0, .int .i8 0, .int .i8 0, .int .i64 0, .int .u16 0, .int .i64 0, .int .i64 0, .int .i64 0, .int .i64 0, .int .i64 0, .int .i64 0, .int .i64 m.pos.x, .int .i64 m.pos.y, .int .i64 m.pos.z, .int .i64 m.vel.x, .int .i64 m.vel.y, .int .i64 m.vel.z, .int .u32 0, .int .u32 0, .slice none 0 0] (0, 0) _ HO.out.bx.obj Try.underlying40 rfl size_msg ?_
  refine wpList_store_row rfl 40 _ _ rfl (w.heap.size + 1) #[.int .i64 6, .int .u16 m.seq, .int .u16 0, .int .u8 0, .int .i8 0, .int .i8 0, .int .i64 0, .int .u16 0, .int .i64 0, .int .i64 0, .int .i64 0, .int .i64 0, .int .i64 0, .int .i64 0, .int .i64 m.pos.x, .int .i64 m.pos.y, .int .i64 m.pos.z, .int .i64 m.vel.x, .int .i64 m.vel.y, .int .i64 m.vel.z, .int .u32 0, .int .u32 0, .slice none 0 0] rfl rfl 40 zMsW HO.out.zx.obj size_msg rfl one23 ?_
  go_wp2_with fail
  have E := HO.out.zx.setRow #[.int .i64 6, .int .u16 m.seq, .int .u16 0, .int .u8 0, .int .i8 0, .int .i8 0, .int .i64 0, .int .u16 0, .int .i64 0, .int .i64 0, .int .i64 0, .int .i64 0, .int .i64 0, .int .i64 0, .int .i64 m.pos.x, .int .i64 m.pos.y, .int .i64 m.pos.z, .int .i64 m.vel.x, .int .i64 m.vel.y, .int .i64 m.vel.z, .int .u32 0, .int .u32 0, .slice none 0 0]
  have HE := below_setRowW HO.out.bel (g := w.heap.size + 1) (by omega) #[.int .i64 6, .int .u16 m.seq, .int .u16 0, .int .u8 0, .int .i8 0, .int .i8 0, .int .i64 0, .int .u16 0, .int .i64 0, .int .i64 0, .int .i64 0, .int .i64 0, .int .i64 0, .int .i64 0, .int .i64 m.pos.x, .int .i64 m.pos.y, .int .i64 m.pos.z, .int .i64 m.vel.x, .int .i64 m.vel.y, .int .i64 m.vel.z, .int .u32 0, .int .u32 0, .slice none 0 0]
  refine bodyPost_ret (v := .agg #[.int .i64 6, .int .u16 m.seq, .int .u16 0, .int .u8 0, .int .i8 0, .int .i8 0, .int .i64 0, .int .u16 0, .int .i64 0, .int .i64 0, .int .i64 0, .int .i64 0, .int .i64 0, .int .i64 0, .int .i64 m.pos.x, .int .i64 m.pos.y, .int .i64 m.pos.z, .int .i64 m.vel.x, .int .i64 m.vel.y, .int .i64 m.vel.z, .int .u32 0, .int .u32 0, .slice none 0 0]) ?hres ?hdef ?hend
  case hres => exact results_cell_row rfl _ _ (w.heap.size + 1) 40 #[.int .i64 6, .int .u16 m.seq, .int .u16 0, .int .u8 0, .int .i8 0, .int .i8 0, .int .i64 0, .int .u16 0, .int .i64 0, .int .i64 0, .int .i64 0, .int .i64 0, .int .i64 0, .int .i64 0, .int .i64 m.pos.x, .int .i64 m.pos.y, .int .i64 m.pos.z, .int .i64 m.vel.x, .int .i64 m.vel.y, .int .i64 m.vel.z, .int .u32 0, .int .u32 0, .slice none 0 0] (0, 0) _ rfl E.obj Try.underlying40 rfl size_msg
  case hdef => rfl
  exact ⟨rfl, HE⟩
open Go.RowKit Go.Shelf
set_option linter.unusedVariables false
set_option linter.unusedSimpArgs false
attribute [local go_sem ↓] Go.wp_at_zero Go.wp_at_succ
set_option maxRecDepth 100000 in
set_option maxHeartbeats 8000000 in
theorem only_7 (m : Msg) (p : Option Addr) (L cap : Nat) (w : World) (hk : m.kind = 7) :
    Calls Try.prog 30 #[.agg (msgC m (.slice p L cap))] w fun e w' => e = .returned (.agg #[.int .i64 7, .int .u16 0, .int .u16 0, .int .u8 0, .int .i8 0, .int .i8 0, .int .i64 0, .int .u16 m.prov, .int .i64 m.id, .int .i64 0, .int .i64 0, .int .i64 0, .int .i64 0, .int .i64 0, .int .i64 0, .int .i64 0, .int .i64 0, .int .i64 0, .int .i64 0, .int .i64 0, .int .u32 0, .int .u32 0, .slice none 0 0]) ∧ Below w.heap.size w w' := by
  have hcm : msgC m (.slice p L cap) = #[.int .i64 7, .int .u16 m.seq, .int .u16 m.cmd.seq, .int .u8 m.cmd.but, .int .i8 m.cmd.dx, .int .i8 m.cmd.dy, .int .i64 m.cmd.tk, .int .u16 m.prov, .int .i64 m.id, .int .i64 m.shot, .int .i64 m.dir.x, .int .i64 m.dir.y, .int .i64 m.dir.z, .int .i64 m.why, .int .i64 m.pos.x, .int .i64 m.pos.y, .int .i64 m.pos.z, .int .i64 m.vel.x, .int .i64 m.vel.y, .int .i64 m.vel.z, .int .u32 m.tick, .int .u32 m.base, .slice p L cap] := by unfold msgC; rw [hk]
  rw [hcm]
  clear hcm hk
  have A0 := (Bq.new w 40 #[.int .i64 7, .int .u16 m.seq, .int .u16 m.cmd.seq, .int .u8 m.cmd.but, .int .i8 m.cmd.dx, .int .i8 m.cmd.dy, .int .i64 m.cmd.tk, .int .u16 m.prov, .int .i64 m.id, .int .i64 m.shot, .int .i64 m.dir.x, .int .i64 m.dir.y, .int .i64 m.dir.z, .int .i64 m.why, .int .i64 m.pos.x, .int .i64 m.pos.y, .int .i64 m.pos.z, .int .i64 m.vel.x, .int .i64 m.vel.y, .int .i64 m.vel.z, .int .u32 m.tick, .int .u32 m.base, .slice p L cap]).alloc (.cells zMsW 40)
  have hO := OX.start w #[.int .i64 7, .int .u16 m.seq, .int .u16 m.cmd.seq, .int .u8 m.cmd.but, .int .i8 m.cmd.dx, .int .i8 m.cmd.dy, .int .i64 m.cmd.tk, .int .u16 m.prov, .int .i64 m.id, .int .i64 m.shot, .int .i64 m.dir.x, .int .i64 m.dir.y, .int .i64 m.dir.z, .int .i64 m.why, .int .i64 m.pos.x, .int .i64 m.pos.y, .int .i64 m.pos.z, .int .i64 m.vel.x, .int .i64 m.vel.y, .int .i64 m.vel.z, .int .u32 m.tick, .int .u32 m.base, .slice p L cap] #[.int .i64 7, .int .u16 0, .int .u16 0, .int .u8 0, .int .i8 0, .int .i8 0, .int .i64 0, .int .u16 0, .int .i64 0, .int .i64 0, .int .i64 0, .int .i64 0, .int .i64 0, .int .i64 0, .int .i64 0, .int .i64 0, .int .i64 0, .int .i64 0, .int .i64 0, .int .i64 0, .int .u32 0, .int .u32 0, .slice none 0 0]
  have HO := hid hO
  have hs : ((w.alloc (.cells #[.int .i64 7, .int .u16 m.seq, .int .u16 m.cmd.seq, .int .u8 m.cmd.but, .int .i8 m.cmd.dx, .int .i8 m.cmd.dy, .int .i64 m.cmd.tk, .int .u16 m.prov, .int .i64 m.id, .int .i64 m.shot, .int .i64 m.dir.x, .int .i64 m.dir.y, .int .i64 m.dir.z, .int .i64 m.why, .int .i64 m.pos.x, .int .i64 m.pos.y, .int .i64 m.pos.z, .int .i64 m.vel.x, .int .i64 m.vel.y, .int .i64 m.vel.z, .int .u32 m.tick, .int .u32 m.base, .slice p L cap] 40)).alloc (.cells zMsW 40)).heap.size = w.heap.size + 2 := by simp
  clear hO
  go_enter Try.func30, Try.ntmps30
  go_upto_region 1 with fail
  generalize Value.agg #[.int .i64 7, .int .u16 m.seq, .int .u16 m.cmd.seq, .int .u8 m.cmd.but, .int .i8 m.cmd.dx, .int .i8 m.cmd.dy, .int .i64 m.cmd.tk, .int .u16 m.prov, .int .i64 m.id, .int .i64 m.shot, .int .i64 m.dir.x, .int .i64 m.dir.y, .int .i64 m.dir.z, .int .i64 m.why, .int .i64 m.pos.x, .int .i64 m.pos.y, .int .i64 m.pos.z, .int .i64 m.vel.x, .int .i64 m.vel.y, .int .i64 m.vel.z, .int .u32 m.tick, .int .u32 m.base, .slice p L cap] = va
  generalize (w.alloc (.cells #[.int .i64 7, .int .u16 m.seq, .int .u16 m.cmd.seq, .int .u8 m.cmd.but, .int .i8 m.cmd.dx, .int .i8 m.cmd.dy, .int .i64 m.cmd.tk, .int .u16 m.prov, .int .i64 m.id, .int .i64 m.shot, .int .i64 m.dir.x, .int .i64 m.dir.y, .int .i64 m.dir.z, .int .i64 m.why, .int .i64 m.pos.x, .int .i64 m.pos.y, .int .i64 m.pos.z, .int .i64 m.vel.x, .int .i64 m.vel.y, .int .i64 m.vel.z, .int .u32 m.tick, .int .u32 m.base, .slice p L cap] 40)).alloc (.cells zMsW 40) = u0 at *
  have z0 := A0.cell (i := 0) rfl
  clear A0
  go_upto_region 2 with (first
    | (refine wpList_buildKind rfl _ rfl 7 rfl ?_)
    | (refine wpList_store_row rfl 40 _ _ rfl (w.heap.size + 2) #[.int .i64 7, .int .u16 0, .int .u16 0, .int .u8 0, .int .i8 0, .int .i8 0, .int .i64 0, .int .u16 0, .int .i64 0, .int .i64 0, .int .i64 0, .int .i64 0, .int .i64 0, .int .i64 0, .int .i64 0, .int .i64 0, .int .i64 0, .int .i64 0, .int .i64 0, .int .i64 0, .int .u32 0, .int .u32 0, .slice none 0 0] rfl rfl 40 zMsW (by rw [← hs]; exact heap_alloc_new _ _) size_msg rfl one23 ?_; rw [← hs, World.setRow_alloc_new, hs]))
  clear z0
  generalize Value.agg #[.int .i64 7, .int .u16 0, .int .u16 0, .int .u8 0, .int .i8 0, .int .i8 0, .int .i64 0, .int .u16 0, .int .i64 0, .int .i64 0, .int .i64 0, .int .i64 0, .int .i64 0, .int .i64 0, .int .i64 0, .int .i64 0, .int .i64 0, .int .i64 0, .int .i64 0, .int .i64 0, .int .u32 0, .int .u32 0, .slice none 0 0] = vb
  try simp only [hs]
  clear hs
  generalize u0.alloc (.cells #[.int .i64 7, .int .u16 0, .int .u16 0, .int .u8 0, .int .i8 0, .int .i8 0, .int .i64 0, .int .u16 0, .int .i64 0, .int .i64 0, .int .i64 0, .int .i64 0, .int .i64 0, .int .i64 0, .int .i64 0, .int .i64 0, .int .i64 0, .int .i64 0, .int .i64 0, .int .i64 0, .int .u32 0, .int .u32 0, .slice none 0 0] 40) = u1 at *
  have zk := HO.out.ax.cell (i := 0) rfl
  go_upto_region 16 with fail
  clear zk
  have s7 := HO.out.ax.cell (i := 7) rfl; have t7 := HO.out.bx.cell (i := 7) rfl
  have ft := HO.out.bx.thaw
  have hO := (HO.out.set 7 (.int .u16 m.prov))
  simp only [List.setIfInBounds_toArray, List.set_cons_zero, List.set_cons_succ] at hO
  have HO2 := hid hO
  clear hO HO
  go_upto_region 17 with fail
  clear s7 t7 ft
  generalize (u1.setCell ⟨w.heap.size + 2, 7, none⟩ (.int .u16 m.prov)) = x0 at *
  have HO := HO2
  clear HO2
  have s8 := HO.out.ax.cell (i := 8) rfl; have t8 := HO.out.bx.cell (i := 8) rfl
  have ft := HO.out.bx.thaw
  have hO := (HO.out.set 8 (.int .i64 m.id))
  simp only [List.setIfInBounds_toArray, List.set_cons_zero, List.set_cons_succ] at hO
  have HO2 := hid hO
  clear hO HO
  go_upto_region 25 with fail
  clear s8 t8 ft
  generalize (x0.setCell ⟨w.heap.size + 2, 8, none⟩ (.int .i64 m.id)) = x1 at *
  have HO := HO2
  clear HO2
  go_step
  refine wpList_load_row rfl 40 _ rfl (w.heap.size + 2) rfl 40 #[.int .i64 7, .int .u16 0, .int .u16 0, .int .u8 0, .int .i8 0, .int .i8 0, .int .i64 0, .int .u16 m.prov, .int .i64 m.id, .int .i64 0, .int .i64 0, .int .i64 0, .int .i64 0, .int .i64 0, .int .i64 0, .int .i64 0, .int .i64 0, .int .i64 0, .int .i64 0, .int .i64 0, .int .u32 0, .int .u32 0, .slice none 0 0] (0, 0) _ HO.out.bx.obj Try.underlying40 rfl size_msg ?_
  refine wpList_store_row rfl 40 _ _ rfl (w.heap.size + 1) #[.int .i64 7, .int .u16 0, .int .u16 0, .int .u8 0, .int .i8 0, .int .i8 0, .int .i64 0, .int .u16 m.prov, .int .i64 m.id, .int .i64 0, .int .i64 0, .int .i64 0, .int .i64 0, .int .i64 0, .int .i64 0, .int .i64 0, .int .i64 0, .int .i64 0, .int .i64 0, .int .i64 0, .int .u32 0, .int .u32 0, .slice none 0 0] rfl rfl 40 zMsW HO.out.zx.obj size_msg rfl one23 ?_
  go_wp2_with fail
  have E := HO.out.zx.setRow #[.int .i64 7, .int .u16 0, .int .u16 0, .int .u8 0, .int .i8 0, .int .i8 0, .int .i64 0, .int .u16 m.prov, .int .i64 m.id, .int .i64 0, .int .i64 0, .int .i64 0, .int .i64 0, .int .i64 0, .int .i64 0, .int .i64 0, .int .i64 0, .int .i64 0, .int .i64 0, .int .i64 0, .int .u32 0, .int .u32 0, .slice none 0 0]
  have HE := below_setRowW HO.out.bel (g := w.heap.size + 1) (by omega) #[.int .i64 7, .int .u16 0, .int .u16 0, .int .u8 0, .int .i8 0, .int .i8 0, .int .i64 0, .int .u16 m.prov, .int .i64 m.id, .int .i64 0, .int .i64 0, .int .i64 0, .int .i64 0, .int .i64 0, .int .i64 0, .int .i64 0, .int .i64 0, .int .i64 0, .int .i64 0, .int .i64 0, .int .u32 0, .int .u32 0, .slice none 0 0]
  refine bodyPost_ret (v := .agg #[.int .i64 7, .int .u16 0, .int .u16 0, .int .u8 0, .int .i8 0, .int .i8 0, .int .i64 0, .int .u16 m.prov, .int .i64 m.id, .int .i64 0, .int .i64 0, .int .i64 0, .int .i64 0, .int .i64 0, .int .i64 0, .int .i64 0, .int .i64 0, .int .i64 0, .int .i64 0, .int .i64 0, .int .u32 0, .int .u32 0, .slice none 0 0]) ?hres ?hdef ?hend
  case hres => exact results_cell_row rfl _ _ (w.heap.size + 1) 40 #[.int .i64 7, .int .u16 0, .int .u16 0, .int .u8 0, .int .i8 0, .int .i8 0, .int .i64 0, .int .u16 m.prov, .int .i64 m.id, .int .i64 0, .int .i64 0, .int .i64 0, .int .i64 0, .int .i64 0, .int .i64 0, .int .i64 0, .int .i64 0, .int .i64 0, .int .i64 0, .int .i64 0, .int .u32 0, .int .u32 0, .slice none 0 0] (0, 0) _ rfl E.obj Try.underlying40 rfl size_msg
  case hdef => rfl
  exact ⟨rfl, HE⟩
open Go.RowKit Go.Shelf
set_option linter.unusedVariables false
set_option linter.unusedSimpArgs false
attribute [local go_sem ↓] Go.wp_at_zero Go.wp_at_succ
set_option maxRecDepth 100000 in
set_option maxHeartbeats 8000000 in
theorem only_8 (m : Msg) (p : Option Addr) (L cap : Nat) (w : World) (hk : m.kind = 8) :
    Calls Try.prog 30 #[.agg (msgC m (.slice p L cap))] w fun e w' => e = .returned (.agg #[.int .i64 8, .int .u16 0, .int .u16 0, .int .u8 0, .int .i8 0, .int .i8 0, .int .i64 0, .int .u16 m.prov, .int .i64 0, .int .i64 0, .int .i64 0, .int .i64 0, .int .i64 0, .int .i64 m.why, .int .i64 0, .int .i64 0, .int .i64 0, .int .i64 0, .int .i64 0, .int .i64 0, .int .u32 0, .int .u32 0, .slice none 0 0]) ∧ Below w.heap.size w w' := by
  have hcm : msgC m (.slice p L cap) = #[.int .i64 8, .int .u16 m.seq, .int .u16 m.cmd.seq, .int .u8 m.cmd.but, .int .i8 m.cmd.dx, .int .i8 m.cmd.dy, .int .i64 m.cmd.tk, .int .u16 m.prov, .int .i64 m.id, .int .i64 m.shot, .int .i64 m.dir.x, .int .i64 m.dir.y, .int .i64 m.dir.z, .int .i64 m.why, .int .i64 m.pos.x, .int .i64 m.pos.y, .int .i64 m.pos.z, .int .i64 m.vel.x, .int .i64 m.vel.y, .int .i64 m.vel.z, .int .u32 m.tick, .int .u32 m.base, .slice p L cap] := by unfold msgC; rw [hk]
  rw [hcm]
  clear hcm hk
  have A0 := (Bq.new w 40 #[.int .i64 8, .int .u16 m.seq, .int .u16 m.cmd.seq, .int .u8 m.cmd.but, .int .i8 m.cmd.dx, .int .i8 m.cmd.dy, .int .i64 m.cmd.tk, .int .u16 m.prov, .int .i64 m.id, .int .i64 m.shot, .int .i64 m.dir.x, .int .i64 m.dir.y, .int .i64 m.dir.z, .int .i64 m.why, .int .i64 m.pos.x, .int .i64 m.pos.y, .int .i64 m.pos.z, .int .i64 m.vel.x, .int .i64 m.vel.y, .int .i64 m.vel.z, .int .u32 m.tick, .int .u32 m.base, .slice p L cap]).alloc (.cells zMsW 40)
  have hO := OX.start w #[.int .i64 8, .int .u16 m.seq, .int .u16 m.cmd.seq, .int .u8 m.cmd.but, .int .i8 m.cmd.dx, .int .i8 m.cmd.dy, .int .i64 m.cmd.tk, .int .u16 m.prov, .int .i64 m.id, .int .i64 m.shot, .int .i64 m.dir.x, .int .i64 m.dir.y, .int .i64 m.dir.z, .int .i64 m.why, .int .i64 m.pos.x, .int .i64 m.pos.y, .int .i64 m.pos.z, .int .i64 m.vel.x, .int .i64 m.vel.y, .int .i64 m.vel.z, .int .u32 m.tick, .int .u32 m.base, .slice p L cap] #[.int .i64 8, .int .u16 0, .int .u16 0, .int .u8 0, .int .i8 0, .int .i8 0, .int .i64 0, .int .u16 0, .int .i64 0, .int .i64 0, .int .i64 0, .int .i64 0, .int .i64 0, .int .i64 0, .int .i64 0, .int .i64 0, .int .i64 0, .int .i64 0, .int .i64 0, .int .i64 0, .int .u32 0, .int .u32 0, .slice none 0 0]
  have HO := hid hO
  have hs : ((w.alloc (.cells #[.int .i64 8, .int .u16 m.seq, .int .u16 m.cmd.seq, .int .u8 m.cmd.but, .int .i8 m.cmd.dx, .int .i8 m.cmd.dy, .int .i64 m.cmd.tk, .int .u16 m.prov, .int .i64 m.id, .int .i64 m.shot, .int .i64 m.dir.x, .int .i64 m.dir.y, .int .i64 m.dir.z, .int .i64 m.why, .int .i64 m.pos.x, .int .i64 m.pos.y, .int .i64 m.pos.z, .int .i64 m.vel.x, .int .i64 m.vel.y, .int .i64 m.vel.z, .int .u32 m.tick, .int .u32 m.base, .slice p L cap] 40)).alloc (.cells zMsW 40)).heap.size = w.heap.size + 2 := by simp
  clear hO
  go_enter Try.func30, Try.ntmps30
  go_upto_region 1 with fail
  generalize Value.agg #[.int .i64 8, .int .u16 m.seq, .int .u16 m.cmd.seq, .int .u8 m.cmd.but, .int .i8 m.cmd.dx, .int .i8 m.cmd.dy, .int .i64 m.cmd.tk, .int .u16 m.prov, .int .i64 m.id, .int .i64 m.shot, .int .i64 m.dir.x, .int .i64 m.dir.y, .int .i64 m.dir.z, .int .i64 m.why, .int .i64 m.pos.x, .int .i64 m.pos.y, .int .i64 m.pos.z, .int .i64 m.vel.x, .int .i64 m.vel.y, .int .i64 m.vel.z, .int .u32 m.tick, .int .u32 m.base, .slice p L cap] = va
  generalize (w.alloc (.cells #[.int .i64 8, .int .u16 m.seq, .int .u16 m.cmd.seq, .int .u8 m.cmd.but, .int .i8 m.cmd.dx, .int .i8 m.cmd.dy, .int .i64 m.cmd.tk, .int .u16 m.prov, .int .i64 m.id, .int .i64 m.shot, .int .i64 m.dir.x, .int .i64 m.dir.y, .int .i64 m.dir.z, .int .i64 m.why, .int .i64 m.pos.x, .int .i64 m.pos.y, .int .i64 m.pos.z, .int .i64 m.vel.x, .int .i64 m.vel.y, .int .i64 m.vel.z, .int .u32 m.tick, .int .u32 m.base, .slice p L cap] 40)).alloc (.cells zMsW 40) = u0 at *
  have z0 := A0.cell (i := 0) rfl
  clear A0
  go_upto_region 2 with (first
    | (refine wpList_buildKind rfl _ rfl 8 rfl ?_)
    | (refine wpList_store_row rfl 40 _ _ rfl (w.heap.size + 2) #[.int .i64 8, .int .u16 0, .int .u16 0, .int .u8 0, .int .i8 0, .int .i8 0, .int .i64 0, .int .u16 0, .int .i64 0, .int .i64 0, .int .i64 0, .int .i64 0, .int .i64 0, .int .i64 0, .int .i64 0, .int .i64 0, .int .i64 0, .int .i64 0, .int .i64 0, .int .i64 0, .int .u32 0, .int .u32 0, .slice none 0 0] rfl rfl 40 zMsW (by rw [← hs]; exact heap_alloc_new _ _) size_msg rfl one23 ?_; rw [← hs, World.setRow_alloc_new, hs]))
  clear z0
  generalize Value.agg #[.int .i64 8, .int .u16 0, .int .u16 0, .int .u8 0, .int .i8 0, .int .i8 0, .int .i64 0, .int .u16 0, .int .i64 0, .int .i64 0, .int .i64 0, .int .i64 0, .int .i64 0, .int .i64 0, .int .i64 0, .int .i64 0, .int .i64 0, .int .i64 0, .int .i64 0, .int .i64 0, .int .u32 0, .int .u32 0, .slice none 0 0] = vb
  try simp only [hs]
  clear hs
  generalize u0.alloc (.cells #[.int .i64 8, .int .u16 0, .int .u16 0, .int .u8 0, .int .i8 0, .int .i8 0, .int .i64 0, .int .u16 0, .int .i64 0, .int .i64 0, .int .i64 0, .int .i64 0, .int .i64 0, .int .i64 0, .int .i64 0, .int .i64 0, .int .i64 0, .int .i64 0, .int .i64 0, .int .i64 0, .int .u32 0, .int .u32 0, .slice none 0 0] 40) = u1 at *
  have zk := HO.out.ax.cell (i := 0) rfl
  go_upto_region 19 with fail
  clear zk
  have s7 := HO.out.ax.cell (i := 7) rfl; have t7 := HO.out.bx.cell (i := 7) rfl
  have ft := HO.out.bx.thaw
  have hO := (HO.out.set 7 (.int .u16 m.prov))
  simp only [List.setIfInBounds_toArray, List.set_cons_zero, List.set_cons_succ] at hO
  have HO2 := hid hO
  clear hO HO
  go_upto_region 20 with fail
  clear s7 t7 ft
  generalize (u1.setCell ⟨w.heap.size + 2, 7, none⟩ (.int .u16 m.prov)) = x0 at *
  have HO := HO2
  clear HO2
  have s13 := HO.out.ax.cell (i := 13) rfl; have t13 := HO.out.bx.cell (i := 13) rfl
  have ft := HO.out.bx.thaw
  have hO := (HO.out.set 13 (.int .i64 m.why))
  simp only [List.setIfInBounds_toArray, List.set_cons_zero, List.set_cons_succ] at hO
  have HO2 := hid hO
  clear hO HO
  go_upto_region 25 with fail
  clear s13 t13 ft
  generalize (x0.setCell ⟨w.heap.size + 2, 13, none⟩ (.int .i64 m.why)) = x1 at *
  have HO := HO2
  clear HO2
  go_step
  refine wpList_load_row rfl 40 _ rfl (w.heap.size + 2) rfl 40 #[.int .i64 8, .int .u16 0, .int .u16 0, .int .u8 0, .int .i8 0, .int .i8 0, .int .i64 0, .int .u16 m.prov, .int .i64 0, .int .i64 0, .int .i64 0, .int .i64 0, .int .i64 0, .int .i64 m.why, .int .i64 0, .int .i64 0, .int .i64 0, .int .i64 0, .int .i64 0, .int .i64 0, .int .u32 0, .int .u32 0, .slice none 0 0] (0, 0) _ HO.out.bx.obj Try.underlying40 rfl size_msg ?_
  refine wpList_store_row rfl 40 _ _ rfl (w.heap.size + 1) #[.int .i64 8, .int .u16 0, .int .u16 0, .int .u8 0, .int .i8 0, .int .i8 0, .int .i64 0, .int .u16 m.prov, .int .i64 0, .int .i64 0, .int .i64 0, .int .i64 0, .int .i64 0, .int .i64 m.why, .int .i64 0, .int .i64 0, .int .i64 0, .int .i64 0, .int .i64 0, .int .i64 0, .int .u32 0, .int .u32 0, .slice none 0 0] rfl rfl 40 zMsW HO.out.zx.obj size_msg rfl one23 ?_
  go_wp2_with fail
  have E := HO.out.zx.setRow #[.int .i64 8, .int .u16 0, .int .u16 0, .int .u8 0, .int .i8 0, .int .i8 0, .int .i64 0, .int .u16 m.prov, .int .i64 0, .int .i64 0, .int .i64 0, .int .i64 0, .int .i64 0, .int .i64 m.why, .int .i64 0, .int .i64 0, .int .i64 0, .int .i64 0, .int .i64 0, .int .i64 0, .int .u32 0, .int .u32 0, .slice none 0 0]
  have HE := below_setRowW HO.out.bel (g := w.heap.size + 1) (by omega) #[.int .i64 8, .int .u16 0, .int .u16 0, .int .u8 0, .int .i8 0, .int .i8 0, .int .i64 0, .int .u16 m.prov, .int .i64 0, .int .i64 0, .int .i64 0, .int .i64 0, .int .i64 0, .int .i64 m.why, .int .i64 0, .int .i64 0, .int .i64 0, .int .i64 0, .int .i64 0, .int .i64 0, .int .u32 0, .int .u32 0, .slice none 0 0]
  refine bodyPost_ret (v := .agg #[.int .i64 8, .int .u16 0, .int .u16 0, .int .u8 0, .int .i8 0, .int .i8 0, .int .i64 0, .int .u16 m.prov, .int .i64 0, .int .i64 0, .int .i64 0, .int .i64 0, .int .i64 0, .int .i64 m.why, .int .i64 0, .int .i64 0, .int .i64 0, .int .i64 0, .int .i64 0, .int .i64 0, .int .u32 0, .int .u32 0, .slice none 0 0]) ?hres ?hdef ?hend
  case hres => exact results_cell_row rfl _ _ (w.heap.size + 1) 40 #[.int .i64 8, .int .u16 0, .int .u16 0, .int .u8 0, .int .i8 0, .int .i8 0, .int .i64 0, .int .u16 m.prov, .int .i64 0, .int .i64 0, .int .i64 0, .int .i64 0, .int .i64 0, .int .i64 m.why, .int .i64 0, .int .i64 0, .int .i64 0, .int .i64 0, .int .i64 0, .int .i64 0, .int .u32 0, .int .u32 0, .slice none 0 0] (0, 0) _ rfl E.obj Try.underlying40 rfl size_msg
  case hdef => rfl
  exact ⟨rfl, HE⟩
open Go.RowKit Go.Shelf
set_option linter.unusedVariables false
set_option linter.unusedSimpArgs false
attribute [local go_sem ↓] Go.wp_at_zero Go.wp_at_succ
set_option maxRecDepth 100000 in
set_option maxHeartbeats 8000000 in
theorem only_9 (m : Msg) (p : Option Addr) (L cap : Nat) (w : World) (hk : m.kind = 9) :
    Calls Try.prog 30 #[.agg (msgC m (.slice p L cap))] w fun e w' => e = .returned (.agg #[.int .i64 9, .int .u16 0, .int .u16 0, .int .u8 0, .int .i8 0, .int .i8 0, .int .i64 0, .int .u16 0, .int .i64 0, .int .i64 0, .int .i64 0, .int .i64 0, .int .i64 0, .int .i64 0, .int .i64 0, .int .i64 0, .int .i64 0, .int .i64 0, .int .i64 0, .int .i64 0, .int .u32 m.tick, .int .u32 m.base, .slice p L cap]) ∧ Below w.heap.size w w' := by
  have hcm : msgC m (.slice p L cap) = #[.int .i64 9, .int .u16 m.seq, .int .u16 m.cmd.seq, .int .u8 m.cmd.but, .int .i8 m.cmd.dx, .int .i8 m.cmd.dy, .int .i64 m.cmd.tk, .int .u16 m.prov, .int .i64 m.id, .int .i64 m.shot, .int .i64 m.dir.x, .int .i64 m.dir.y, .int .i64 m.dir.z, .int .i64 m.why, .int .i64 m.pos.x, .int .i64 m.pos.y, .int .i64 m.pos.z, .int .i64 m.vel.x, .int .i64 m.vel.y, .int .i64 m.vel.z, .int .u32 m.tick, .int .u32 m.base, .slice p L cap] := by unfold msgC; rw [hk]
  rw [hcm]
  clear hcm hk
  have A0 := (Bq.new w 40 #[.int .i64 9, .int .u16 m.seq, .int .u16 m.cmd.seq, .int .u8 m.cmd.but, .int .i8 m.cmd.dx, .int .i8 m.cmd.dy, .int .i64 m.cmd.tk, .int .u16 m.prov, .int .i64 m.id, .int .i64 m.shot, .int .i64 m.dir.x, .int .i64 m.dir.y, .int .i64 m.dir.z, .int .i64 m.why, .int .i64 m.pos.x, .int .i64 m.pos.y, .int .i64 m.pos.z, .int .i64 m.vel.x, .int .i64 m.vel.y, .int .i64 m.vel.z, .int .u32 m.tick, .int .u32 m.base, .slice p L cap]).alloc (.cells zMsW 40)
  have hO := OX.start w #[.int .i64 9, .int .u16 m.seq, .int .u16 m.cmd.seq, .int .u8 m.cmd.but, .int .i8 m.cmd.dx, .int .i8 m.cmd.dy, .int .i64 m.cmd.tk, .int .u16 m.prov, .int .i64 m.id, .int .i64 m.shot, .int .i64 m.dir.x, .int .i64 m.dir.y, .int .i64 m.dir.z, .int .i64 m.why, .int .i64 m.pos.x, .int .i64 m.pos.y, .int .i64 m.pos.z, .int .i64 m.vel.x, .int .i64 m.vel.y, .int .i64 m.vel.z, .int .u32 m.tick, .int .u32 m.base, .slice p L cap] #[.int .i64 9, .int .u16 0, .int .u16 0, .int .u8 0, .int .i8 0, .int .i8 0, .int .i64 0, .int .u16 0, .int .i64 0, .int .i64 0, .int .i64 0, .int .i64 0, .int .i64 0, .int .i64 0, .int .i64 0, .int .i64 0, .int .i64 0, .int .i64 0, .int .i64 0, .int .i64 0, .int .u32 0, .int .u32 0, .slice none 0 0]
  have HO := hid hO
  have hs : ((w.alloc (.cells #[.int .i64 9, .int .u16 m.seq, .int .u16 m.cmd.seq, .int .u8 m.cmd.but, .int .i8 m.cmd.dx, .int .i8 m.cmd.dy, .int .i64 m.cmd.tk, .int .u16 m.prov, .int .i64 m.id, .int .i64 m.shot, .int .i64 m.dir.x, .int .i64 m.dir.y, .int .i64 m.dir.z, .int .i64 m.why, .int .i64 m.pos.x, .int .i64 m.pos.y, .int .i64 m.pos.z, .int .i64 m.vel.x, .int .i64 m.vel.y, .int .i64 m.vel.z, .int .u32 m.tick, .int .u32 m.base, .slice p L cap] 40)).alloc (.cells zMsW 40)).heap.size = w.heap.size + 2 := by simp
  clear hO
  go_enter Try.func30, Try.ntmps30
  go_upto_region 1 with fail
  generalize Value.agg #[.int .i64 9, .int .u16 m.seq, .int .u16 m.cmd.seq, .int .u8 m.cmd.but, .int .i8 m.cmd.dx, .int .i8 m.cmd.dy, .int .i64 m.cmd.tk, .int .u16 m.prov, .int .i64 m.id, .int .i64 m.shot, .int .i64 m.dir.x, .int .i64 m.dir.y, .int .i64 m.dir.z, .int .i64 m.why, .int .i64 m.pos.x, .int .i64 m.pos.y, .int .i64 m.pos.z, .int .i64 m.vel.x, .int .i64 m.vel.y, .int .i64 m.vel.z, .int .u32 m.tick, .int .u32 m.base, .slice p L cap] = va
  generalize (w.alloc (.cells #[.int .i64 9, .int .u16 m.seq, .int .u16 m.cmd.seq, .int .u8 m.cmd.but, .int .i8 m.cmd.dx, .int .i8 m.cmd.dy, .int .i64 m.cmd.tk, .int .u16 m.prov, .int .i64 m.id, .int .i64 m.shot, .int .i64 m.dir.x, .int .i64 m.dir.y, .int .i64 m.dir.z, .int .i64 m.why, .int .i64 m.pos.x, .int .i64 m.pos.y, .int .i64 m.pos.z, .int .i64 m.vel.x, .int .i64 m.vel.y, .int .i64 m.vel.z, .int .u32 m.tick, .int .u32 m.base, .slice p L cap] 40)).alloc (.cells zMsW 40) = u0 at *
  have z0 := A0.cell (i := 0) rfl
  clear A0
  go_upto_region 2 with (first
    | (refine wpList_buildKind rfl _ rfl 9 rfl ?_)
    | (refine wpList_store_row rfl 40 _ _ rfl (w.heap.size + 2) #[.int .i64 9, .int .u16 0, .int .u16 0, .int .u8 0, .int .i8 0, .int .i8 0, .int .i64 0, .int .u16 0, .int .i64 0, .int .i64 0, .int .i64 0, .int .i64 0, .int .i64 0, .int .i64 0, .int .i64 0, .int .i64 0, .int .i64 0, .int .i64 0, .int .i64 0, .int .i64 0, .int .u32 0, .int .u32 0, .slice none 0 0] rfl rfl 40 zMsW (by rw [← hs]; exact heap_alloc_new _ _) size_msg rfl one23 ?_; rw [← hs, World.setRow_alloc_new, hs]))
  clear z0
  generalize Value.agg #[.int .i64 9, .int .u16 0, .int .u16 0, .int .u8 0, .int .i8 0, .int .i8 0, .int .i64 0, .int .u16 0, .int .i64 0, .int .i64 0, .int .i64 0, .int .i64 0, .int .i64 0, .int .i64 0, .int .i64 0, .int .i64 0, .int .i64 0, .int .i64 0, .int .i64 0, .int .i64 0, .int .u32 0, .int .u32 0, .slice none 0 0] = vb
  try simp only [hs]
  clear hs
  generalize u0.alloc (.cells #[.int .i64 9, .int .u16 0, .int .u16 0, .int .u8 0, .int .i8 0, .int .i8 0, .int .i64 0, .int .u16 0, .int .i64 0, .int .i64 0, .int .i64 0, .int .i64 0, .int .i64 0, .int .i64 0, .int .i64 0, .int .i64 0, .int .i64 0, .int .i64 0, .int .i64 0, .int .i64 0, .int .u32 0, .int .u32 0, .slice none 0 0] 40) = u1 at *
  have zk := HO.out.ax.cell (i := 0) rfl
  go_upto_region 22 with fail
  clear zk
  have s20 := HO.out.ax.cell (i := 20) rfl; have t20 := HO.out.bx.cell (i := 20) rfl
  have ft := HO.out.bx.thaw
  have hO := (HO.out.set 20 (.int .u32 m.tick))
  simp only [List.setIfInBounds_toArray, List.set_cons_zero, List.set_cons_succ] at hO
  have HO2 := hid hO
  clear hO HO
  go_upto_region 23 with fail
  clear s20 t20 ft
  generalize (u1.setCell ⟨w.heap.size + 2, 20, none⟩ (.int .u32 m.tick)) = x0 at *
  have HO := HO2
  clear HO2
  have s21 := HO.out.ax.cell (i := 21) rfl; have t21 := HO.out.bx.cell (i := 21) rfl
  have ft := HO.out.bx.thaw
  have hO := (HO.out.set 21 (.int .u32 m.base))
  simp only [List.setIfInBounds_toArray, List.set_cons_zero, List.set_cons_succ] at hO
  have HO2 := hid hO
  clear hO HO
  go_upto_region 24 with fail
  clear s21 t21 ft
  generalize (x0.setCell ⟨w.heap.size + 2, 21, none⟩ (.int .u32 m.base)) = x1 at *
  have HO := HO2
  clear HO2
  have s22 := HO.out.ax.cell (i := 22) rfl; have t22 := HO.out.bx.cell (i := 22) rfl
  have ft := HO.out.bx.thaw
  have hO := (HO.out.set 22 (.slice p L cap))
  simp only [List.setIfInBounds_toArray, List.set_cons_zero, List.set_cons_succ] at hO
  have HO2 := hid hO
  clear hO HO
  go_upto_region 25 with fail
  clear s22 t22 ft
  generalize (x1.setCell ⟨w.heap.size + 2, 22, none⟩ (.slice p L cap)) = x2 at *
  have HO := HO2
  clear HO2
  go_step
  refine wpList_load_row rfl 40 _ rfl (w.heap.size + 2) rfl 40 #[.int .i64 9, .int .u16 0, .int .u16 0, .int .u8 0, .int .i8 0, .int .i8 0, .int .i64 0, .int .u16 0, .int .i64 0, .int .i64 0, .int .i64 0, .int .i64 0, .int .i64 0, .int .i64 0, .int .i64 0, .int .i64 0, .int .i64 0, .int .i64 0, .int .i64 0, .int .i64 0, .int .u32 m.tick, .int .u32 m.base, .slice p L cap] (0, 0) _ HO.out.bx.obj Try.underlying40 rfl size_msg ?_
  refine wpList_store_row rfl 40 _ _ rfl (w.heap.size + 1) #[.int .i64 9, .int .u16 0, .int .u16 0, .int .u8 0, .int .i8 0, .int .i8 0, .int .i64 0, .int .u16 0, .int .i64 0, .int .i64 0, .int .i64 0, .int .i64 0, .int .i64 0, .int .i64 0, .int .i64 0, .int .i64 0, .int .i64 0, .int .i64 0, .int .i64 0, .int .i64 0, .int .u32 m.tick, .int .u32 m.base, .slice p L cap] rfl rfl 40 zMsW HO.out.zx.obj size_msg rfl one23 ?_
  go_wp2_with fail
  have E := HO.out.zx.setRow #[.int .i64 9, .int .u16 0, .int .u16 0, .int .u8 0, .int .i8 0, .int .i8 0, .int .i64 0, .int .u16 0, .int .i64 0, .int .i64 0, .int .i64 0, .int .i64 0, .int .i64 0, .int .i64 0, .int .i64 0, .int .i64 0, .int .i64 0, .int .i64 0, .int .i64 0, .int .i64 0, .int .u32 m.tick, .int .u32 m.base, .slice p L cap]
  have HE := below_setRowW HO.out.bel (g := w.heap.size + 1) (by omega) #[.int .i64 9, .int .u16 0, .int .u16 0, .int .u8 0, .int .i8 0, .int .i8 0, .int .i64 0, .int .u16 0, .int .i64 0, .int .i64 0, .int .i64 0, .int .i64 0, .int .i64 0, .int .i64 0, .int .i64 0, .int .i64 0, .int .i64 0, .int .i64 0, .int .i64 0, .int .i64 0, .int .u32 m.tick, .int .u32 m.base, .slice p L cap]
  refine bodyPost_ret (v := .agg #[.int .i64 9, .int .u16 0, .int .u16 0, .int .u8 0, .int .i8 0, .int .i8 0, .int .i64 0, .int .u16 0, .int .i64 0, .int .i64 0, .int .i64 0, .int .i64 0, .int .i64 0, .int .i64 0, .int .i64 0, .int .i64 0, .int .i64 0, .int .i64 0, .int .i64 0, .int .i64 0, .int .u32 m.tick, .int .u32 m.base, .slice p L cap]) ?hres ?hdef ?hend
  case hres => exact results_cell_row rfl _ _ (w.heap.size + 1) 40 #[.int .i64 9, .int .u16 0, .int .u16 0, .int .u8 0, .int .i8 0, .int .i8 0, .int .i64 0, .int .u16 0, .int .i64 0, .int .i64 0, .int .i64 0, .int .i64 0, .int .i64 0, .int .i64 0, .int .i64 0, .int .i64 0, .int .i64 0, .int .i64 0, .int .i64 0, .int .i64 0, .int .u32 m.tick, .int .u32 m.base, .slice p L cap] (0, 0) _ rfl E.obj Try.underlying40 rfl size_msg
  case hdef => rfl
  exact ⟨rfl, HE⟩
open Go.RowKit Go.Shelf
set_option linter.unusedVariables false
set_option linter.unusedSimpArgs false
attribute [local go_sem ↓] Go.wp_at_zero Go.wp_at_succ
set_option maxRecDepth 100000 in
set_option maxHeartbeats 8000000 in
theorem only_K (m : Msg) (p : Option Addr) (L cap : Nat) (w : World) (K : Int) (hk : m.kind = K) (e2 : (K == 2) = false) (e3 : (K == 3) = false) (e5 : (K == 5) = false) (e6 : (K == 6) = false) (e7 : (K == 7) = false) (e8 : (K == 8) = false) (e9 : (K == 9) = false) :
    Calls Try.prog 30 #[.agg (msgC m (.slice p L cap))] w fun e w' => e = .returned (.agg #[.int .i64 K, .int .u16 0, .int .u16 0, .int .u8 0, .int .i8 0, .int .i8 0, .int .i64 0, .int .u16 0, .int .i64 0, .int .i64 0, .int .i64 0, .int .i64 0, .int .i64 0, .int .i64 0, .int .i64 0, .int .i64 0, .int .i64 0, .int .i64 0, .int .i64 0, .int .i64 0, .int .u32 0, .int .u32 0, .slice none 0 0]) ∧ Below w.heap.size w w' := by
  have hcm : msgC m (.slice p L cap) = #[.int .i64 K, .int .u16 m.seq, .int .u16 m.cmd.seq, .int .u8 m.cmd.but, .int .i8 m.cmd.dx, .int .i8 m.cmd.dy, .int .i64 m.cmd.tk, .int .u16 m.prov, .int .i64 m.id, .int .i64 m.shot, .int .i64 m.dir.x, .int .i64 m.dir.y, .int .i64 m.dir.z, .int .i64 m.why, .int .i64 m.pos.x, .int .i64 m.pos.y, .int .i64 m.pos.z, .int .i64 m.vel.x, .int .i64 m.vel.y, .int .i64 m.vel.z, .int .u32 m.tick, .int .u32 m.base, .slice p L cap] := by unfold msgC; rw [hk]
  rw [hcm]
  clear hcm hk
  have A0 := (Bq.new w 40 #[.int .i64 K, .int .u16 m.seq, .int .u16 m.cmd.seq, .int .u8 m.cmd.but, .int .i8 m.cmd.dx, .int .i8 m.cmd.dy, .int .i64 m.cmd.tk, .int .u16 m.prov, .int .i64 m.id, .int .i64 m.shot, .int .i64 m.dir.x, .int .i64 m.dir.y, .int .i64 m.dir.z, .int .i64 m.why, .int .i64 m.pos.x, .int .i64 m.pos.y, .int .i64 m.pos.z, .int .i64 m.vel.x, .int .i64 m.vel.y, .int .i64 m.vel.z, .int .u32 m.tick, .int .u32 m.base, .slice p L cap]).alloc (.cells zMsW 40)
  have hO := OX.start w #[.int .i64 K, .int .u16 m.seq, .int .u16 m.cmd.seq, .int .u8 m.cmd.but, .int .i8 m.cmd.dx, .int .i8 m.cmd.dy, .int .i64 m.cmd.tk, .int .u16 m.prov, .int .i64 m.id, .int .i64 m.shot, .int .i64 m.dir.x, .int .i64 m.dir.y, .int .i64 m.dir.z, .int .i64 m.why, .int .i64 m.pos.x, .int .i64 m.pos.y, .int .i64 m.pos.z, .int .i64 m.vel.x, .int .i64 m.vel.y, .int .i64 m.vel.z, .int .u32 m.tick, .int .u32 m.base, .slice p L cap] #[.int .i64 K, .int .u16 0, .int .u16 0, .int .u8 0, .int .i8 0, .int .i8 0, .int .i64 0, .int .u16 0, .int .i64 0, .int .i64 0, .int .i64 0, .int .i64 0, .int .i64 0, .int .i64 0, .int .i64 0, .int .i64 0, .int .i64 0, .int .i64 0, .int .i64 0, .int .i64 0, .int .u32 0, .int .u32 0, .slice none 0 0]
  have HO := hid hO
  have hs : ((w.alloc (.cells #[.int .i64 K, .int .u16 m.seq, .int .u16 m.cmd.seq, .int .u8 m.cmd.but, .int .i8 m.cmd.dx, .int .i8 m.cmd.dy, .int .i64 m.cmd.tk, .int .u16 m.prov, .int .i64 m.id, .int .i64 m.shot, .int .i64 m.dir.x, .int .i64 m.dir.y, .int .i64 m.dir.z, .int .i64 m.why, .int .i64 m.pos.x, .int .i64 m.pos.y, .int .i64 m.pos.z, .int .i64 m.vel.x, .int .i64 m.vel.y, .int .i64 m.vel.z, .int .u32 m.tick, .int .u32 m.base, .slice p L cap] 40)).alloc (.cells zMsW 40)).heap.size = w.heap.size + 2 := by simp
  clear hO
  go_enter Try.func30, Try.ntmps30
  go_upto_region 1 with fail
  generalize Value.agg #[.int .i64 K, .int .u16 m.seq, .int .u16 m.cmd.seq, .int .u8 m.cmd.but, .int .i8 m.cmd.dx, .int .i8 m.cmd.dy, .int .i64 m.cmd.tk, .int .u16 m.prov, .int .i64 m.id, .int .i64 m.shot, .int .i64 m.dir.x, .int .i64 m.dir.y, .int .i64 m.dir.z, .int .i64 m.why, .int .i64 m.pos.x, .int .i64 m.pos.y, .int .i64 m.pos.z, .int .i64 m.vel.x, .int .i64 m.vel.y, .int .i64 m.vel.z, .int .u32 m.tick, .int .u32 m.base, .slice p L cap] = va
  generalize (w.alloc (.cells #[.int .i64 K, .int .u16 m.seq, .int .u16 m.cmd.seq, .int .u8 m.cmd.but, .int .i8 m.cmd.dx, .int .i8 m.cmd.dy, .int .i64 m.cmd.tk, .int .u16 m.prov, .int .i64 m.id, .int .i64 m.shot, .int .i64 m.dir.x, .int .i64 m.dir.y, .int .i64 m.dir.z, .int .i64 m.why, .int .i64 m.pos.x, .int .i64 m.pos.y, .int .i64 m.pos.z, .int .i64 m.vel.x, .int .i64 m.vel.y, .int .i64 m.vel.z, .int .u32 m.tick, .int .u32 m.base, .slice p L cap] 40)).alloc (.cells zMsW 40) = u0 at *
  have z0 := A0.cell (i := 0) rfl
  clear A0
  go_upto_region 2 with (first
    | (refine wpList_buildKind rfl _ rfl K rfl ?_)
    | (refine wpList_store_row rfl 40 _ _ rfl (w.heap.size + 2) #[.int .i64 K, .int .u16 0, .int .u16 0, .int .u8 0, .int .i8 0, .int .i8 0, .int .i64 0, .int .u16 0, .int .i64 0, .int .i64 0, .int .i64 0, .int .i64 0, .int .i64 0, .int .i64 0, .int .i64 0, .int .i64 0, .int .i64 0, .int .i64 0, .int .i64 0, .int .i64 0, .int .u32 0, .int .u32 0, .slice none 0 0] rfl rfl 40 zMsW (by rw [← hs]; exact heap_alloc_new _ _) size_msg rfl one23 ?_; rw [← hs, World.setRow_alloc_new, hs]))
  clear z0
  generalize Value.agg #[.int .i64 K, .int .u16 0, .int .u16 0, .int .u8 0, .int .i8 0, .int .i8 0, .int .i64 0, .int .u16 0, .int .i64 0, .int .i64 0, .int .i64 0, .int .i64 0, .int .i64 0, .int .i64 0, .int .i64 0, .int .i64 0, .int .i64 0, .int .i64 0, .int .i64 0, .int .i64 0, .int .u32 0, .int .u32 0, .slice none 0 0] = vb
  try simp only [hs]
  clear hs
  generalize u0.alloc (.cells #[.int .i64 K, .int .u16 0, .int .u16 0, .int .u8 0, .int .i8 0, .int .i8 0, .int .i64 0, .int .u16 0, .int .i64 0, .int .i64 0, .int .i64 0, .int .i64 0, .int .i64 0, .int .i64 0, .int .i64 0, .int .i64 0, .int .i64 0, .int .i64 0, .int .i64 0, .int .i64 0, .int .u32 0, .int .u32 0, .slice none 0 0] 40) = u1 at *
  have zk := HO.out.ax.cell (i := 0) rfl
  go_upto_region 25 with fail
  clear zk
  go_step
  refine wpList_load_row rfl 40 _ rfl (w.heap.size + 2) rfl 40 #[.int .i64 K, .int .u16 0, .int .u16 0, .int .u8 0, .int .i8 0, .int .i8 0, .int .i64 0, .int .u16 0, .int .i64 0, .int .i64 0, .int .i64 0, .int .i64 0, .int .i64 0, .int .i64 0, .int .i64 0, .int .i64 0, .int .i64 0, .int .i64 0, .int .i64 0, .int .i64 0, .int .u32 0, .int .u32 0, .slice none 0 0] (0, 0) _ HO.out.bx.obj Try.underlying40 rfl size_msg ?_
  refine wpList_store_row rfl 40 _ _ rfl (w.heap.size + 1) #[.int .i64 K, .int .u16 0, .int .u16 0, .int .u8 0, .int .i8 0, .int .i8 0, .int .i64 0, .int .u16 0, .int .i64 0, .int .i64 0, .int .i64 0, .int .i64 0, .int .i64 0, .int .i64 0, .int .i64 0, .int .i64 0, .int .i64 0, .int .i64 0, .int .i64 0, .int .i64 0, .int .u32 0, .int .u32 0, .slice none 0 0] rfl rfl 40 zMsW HO.out.zx.obj size_msg rfl one23 ?_
  go_wp2_with fail
  have E := HO.out.zx.setRow #[.int .i64 K, .int .u16 0, .int .u16 0, .int .u8 0, .int .i8 0, .int .i8 0, .int .i64 0, .int .u16 0, .int .i64 0, .int .i64 0, .int .i64 0, .int .i64 0, .int .i64 0, .int .i64 0, .int .i64 0, .int .i64 0, .int .i64 0, .int .i64 0, .int .i64 0, .int .i64 0, .int .u32 0, .int .u32 0, .slice none 0 0]
  have HE := below_setRowW HO.out.bel (g := w.heap.size + 1) (by omega) #[.int .i64 K, .int .u16 0, .int .u16 0, .int .u8 0, .int .i8 0, .int .i8 0, .int .i64 0, .int .u16 0, .int .i64 0, .int .i64 0, .int .i64 0, .int .i64 0, .int .i64 0, .int .i64 0, .int .i64 0, .int .i64 0, .int .i64 0, .int .i64 0, .int .i64 0, .int .i64 0, .int .u32 0, .int .u32 0, .slice none 0 0]
  refine bodyPost_ret (v := .agg #[.int .i64 K, .int .u16 0, .int .u16 0, .int .u8 0, .int .i8 0, .int .i8 0, .int .i64 0, .int .u16 0, .int .i64 0, .int .i64 0, .int .i64 0, .int .i64 0, .int .i64 0, .int .i64 0, .int .i64 0, .int .i64 0, .int .i64 0, .int .i64 0, .int .i64 0, .int .i64 0, .int .u32 0, .int .u32 0, .slice none 0 0]) ?hres ?hdef ?hend
  case hres => exact results_cell_row rfl _ _ (w.heap.size + 1) 40 #[.int .i64 K, .int .u16 0, .int .u16 0, .int .u8 0, .int .i8 0, .int .i8 0, .int .i64 0, .int .u16 0, .int .i64 0, .int .i64 0, .int .i64 0, .int .i64 0, .int .i64 0, .int .i64 0, .int .i64 0, .int .i64 0, .int .i64 0, .int .i64 0, .int .i64 0, .int .i64 0, .int .u32 0, .int .u32 0, .slice none 0 0] (0, 0) _ rfl E.obj Try.underlying40 rfl size_msg
  case hdef => rfl
  exact ⟨rfl, HE⟩
open Go.RowKit Go.Shelf
set_option linter.unusedVariables false
set_option linter.unusedSimpArgs false

theorem refOnlyF (m : Msg) (p : Option Addr) (cap : Nat) (w : World) :
    Calls Try.prog 30 #[.agg (msgC m (.slice p m.bytes.length cap))] w fun e w' => e = .returned (.agg (msgC (onlyM m) (if m.kind = 9 then .slice p m.bytes.length cap else .slice none 0 0))) ∧ Below w.heap.size w w' := by
  have hK := only_K m p m.bytes.length cap w m.kind rfl
  by_cases e2 : m.kind = 2
  · have h := only_2 m p m.bytes.length cap w e2
    have ho : onlyM m = { bare 2 with cmd := m.cmd } := by unfold onlyM; simp only [e2, Int.reduceEq, if_true, if_false]
    rw [ho, if_neg (by rw [e2]; decide)]
    exact h
  by_cases e3 : m.kind = 3
  · have h := only_3 m p m.bytes.length cap w e3
    have ho : onlyM m = { bare 3 with prov := m.prov, shot := m.shot, dir := m.dir } := by unfold onlyM; simp only [e3, Int.reduceEq, if_true, if_false]
    rw [ho, if_neg (by rw [e3]; decide)]
    exact h
  by_cases e5 : m.kind = 5
  · have h := only_5 m p m.bytes.length cap w e5
    have ho : onlyM m = { bare 5 with id := m.id } := by unfold onlyM; simp only [e5, Int.reduceEq, if_true, if_false]
    rw [ho, if_neg (by rw [e5]; decide)]
    exact h
  by_cases e6 : m.kind = 6
  · have h := only_6 m p m.bytes.length cap w e6
    have ho : onlyM m = { bare 6 with seq := m.seq, pos := m.pos, vel := m.vel } := by unfold onlyM; simp only [e6, Int.reduceEq, if_true, if_false]
    rw [ho, if_neg (by rw [e6]; decide)]
    exact h
  by_cases e7 : m.kind = 7
  · have h := only_7 m p m.bytes.length cap w e7
    have ho : onlyM m = { bare 7 with prov := m.prov, id := m.id } := by unfold onlyM; simp only [e7, Int.reduceEq, if_true, if_false]
    rw [ho, if_neg (by rw [e7]; decide)]
    exact h
  by_cases e8 : m.kind = 8
  · have h := only_8 m p m.bytes.length cap w e8
    have ho : onlyM m = { bare 8 with prov := m.prov, why := m.why } := by unfold onlyM; simp only [e8, Int.reduceEq, if_true, if_false]
    rw [ho, if_neg (by rw [e8]; decide)]
    exact h
  by_cases e9 : m.kind = 9
  · have h := only_9 m p m.bytes.length cap w e9
    have ho : onlyM m = { bare 9 with tick := m.tick, base := m.base, bytes := m.bytes } := by unfold onlyM; simp only [e9, Int.reduceEq, if_true, if_false]
    rw [ho, if_pos (by exact e9)]
    exact h
  · have ho : onlyM m = bare m.kind := by unfold onlyM; simp only [e2, e3, e5, e6, e7, e8, e9, if_false]
    rw [ho, if_neg e9]
    exact hK (by simp [e2]) (by simp [e3]) (by simp [e5]) (by simp [e6]) (by simp [e7]) (by simp [e8]) (by simp [e9])
open Go.RowKit Go.Shelf
set_option linter.unusedVariables false
set_option linter.unusedSimpArgs false
attribute [local go_sem ↓] Go.wp_at_zero Go.wp_at_succ

theorem run_max_int3 (w : World) (ts : Array TypeId) (t : TypeId) (x y z : Int) : (Builtin.max_ ts t #[.int .i64 x, .int .i64 y, .int .i64 z]).run Try.prog w = .ok (.int .i64 (max (max x y) z)) w := by
  by_cases h1 : x < y <;> by_cases h2 : (max x y) < z <;> simp [Builtin.max_, Builtin.max2] <;> repeat' split
  all_goals omega
set_option maxRecDepth 100000 in
set_option maxHeartbeats 1000000 in
theorem farF (v : V3) (a b : Int) (w : World) :
    Calls Try.prog 31 #[.agg #[.int .i64 v.x, .int .i64 v.y, .int .i64 v.z], .int .i64 a, .int .i64 b] w fun e w' => e = .returned (.bool (decide (v.in a b))) ∧ Below w.heap.size w w' := by
  obtain ⟨x, y, z⟩ := v
  dsimp only
  obtain ⟨mn, hmn⟩ : ∃ mn, min (min x y) z = mn := ⟨_, rfl⟩
  obtain ⟨mx, hmx⟩ : ∃ mx, max (max x y) z = mx := ⟨_, rfl⟩
  have f1 : ∀ ts t W, (Builtin.min_ ts t #[.int .i64 x, .int .i64 y, .int .i64 z]).run Try.prog W = .ok (.int .i64 mn) W := fun ts t W => by
    rw [run_min_int3, ← hmn]; repeat' split
    all_goals (congr 2; omega)
  have f2 : ∀ ts t W, (Builtin.max_ ts t #[.int .i64 x, .int .i64 y, .int .i64 z]).run Try.prog W = .ok (.int .i64 mx) W := fun ts t W => by
    rw [run_max_int3, hmx]
  have hiff : (V3.in ⟨x, y, z⟩ a b) ↔ a ≤ mn ∧ mx ≤ b := by
    unfold V3.in
    show ((a ≤ x ∧ x ≤ b) ∧ (a ≤ y ∧ y ≤ b) ∧ (a ≤ z ∧ z ≤ b)) ↔ _
    omega
  have hb : Below w.heap.size w (w.alloc (.cells #[.int .i64 x, .int .i64 y, .int .i64 z] 37)) := (Below.refl _ _).alloc (Nat.le_refl _) _
  have A := Bq.new w 37 #[.int .i64 x, .int .i64 y, .int .i64 z]
  have c0 := A.cell (i := 0) rfl; have c1 := A.cell (i := 1) rfl; have c2 := A.cell (i := 2) rfl
  have HB := hid hb; have HI := hid hiff
  clear hmn hmx hiff hb A
  by_cases h1 : a ≤ mn
  · have hd : decide (V3.in ⟨x, y, z⟩ a b) = decide (mx ≤ b) := by
      apply decide_eq_decide.2; exact ⟨fun e => (HI.out.1 e).2, fun e => HI.out.2 ⟨h1, e⟩⟩
    rw [hd]
    go_enter Try.func31, Try.ntmps31
    go_wp2_with fail
    go_ret
    exact ⟨rfl, HB.out⟩
  · have hd : decide (V3.in ⟨x, y, z⟩ a b) = false := decide_eq_false (fun e => h1 (HI.out.1 e).1)
    rw [hd]
    go_enter Try.func31, Try.ntmps31
    go_wp2_with fail
    go_ret
    exact ⟨rfl, HB.out⟩
open Go.RowKit Go.Shelf Pg
set_option linter.unusedVariables false

theorem textL (n : Int) (k : Nat) (K : Int) (hK : K = (k : Int)) (hk : k ≤ 64) (w : World) :
    Calls Try.prog 52 #[.int .u64 (IntKind.u64.wrap n), .int .i64 K] w fun e w' => e = .returned (.string (txt (bitsK n k))) ∧ Below w.heap.size w w' := by
  subst hK; exact textN n k hk w
theorem refVecL (v : V3) (k : Nat) (K : Int) (hK : K = (k : Int)) (hk : k ≤ 32) (w : World) :
    Calls Try.prog 71 #[.agg #[.int .i64 v.x, .int .i64 v.y, .int .i64 v.z], .int .i64 K] w fun e w' => e = .returned (.string (txt (bitsK v.x k ++ (bitsK v.y k ++ bitsK v.z k)))) ∧ Below w.heap.size w w' := by
  subst hK; exact refVecF v k hk w
theorem enc_0 {m : Msg} (h2 : m.kind ≠ 2) (h3 : m.kind ≠ 3) (h5 : m.kind ≠ 5) (h6 : m.kind ≠ 6) (h7 : m.kind ≠ 7) (h8 : m.kind ≠ 8) (h9 : m.kind ≠ 9) : (carr m).enc = bitsK m.kind 4 := by
  show bitsK m.kind 4 ++ (fieldsP m m.kind).enc = _
  unfold fieldsP
  simp only [h2, h3, h5, h6, h7, h8, h9, if_false, Pg.enc, List.append_nil]
theorem enc_2 {m : Msg} (h : m.kind = 2) : (carr m).enc = bitsK m.kind 4 ++ (bitsK m.cmd.seq 16 ++ (bitsK m.cmd.but 2 ++ (bitsK m.cmd.dx 8 ++ (bitsK m.cmd.dy 8 ++ bitsK (IntKind.i64.wrap (m.cmd.tk - 1)) 3)))) := by
  rw [Go.IntWalk.i64_left]
  show bitsK m.kind 4 ++ (fieldsP m m.kind).enc = _
  unfold fieldsP
  rw [if_pos h]
  show bitsK m.kind 4 ++ (bitsK _ 16 ++ (bitsK _ 2 ++ (bitsK _ 8 ++ (bitsK _ 8 ++ (bitsK _ 3 ++ []))))) = _
  rw [List.append_nil]
theorem enc_3 {m : Msg} (h : m.kind = 3) : (carr m).enc = bitsK m.kind 4 ++ (bitsK m.prov 16 ++ (bitsK m.shot 1 ++ (bitsK m.dir.x 18 ++ (bitsK m.dir.y 18 ++ bitsK m.dir.z 18)))) := by
  show bitsK m.kind 4 ++ (fieldsP m m.kind).enc = _
  unfold fieldsP
  rw [if_neg (by rw [h]; decide), if_pos h]
  show bitsK m.kind 4 ++ (bitsK _ 16 ++ (bitsK _ 1 ++ (bitsK _ 18 ++ (bitsK _ 18 ++ (bitsK _ 18 ++ []))))) = _
  rw [List.append_nil]
theorem enc_5 {m : Msg} (h : m.kind = 5) : (carr m).enc = bitsK m.kind 4 ++ bitsK m.id 31 := by
  show bitsK m.kind 4 ++ (fieldsP m m.kind).enc = _
  unfold fieldsP
  rw [if_neg (by rw [h]; decide), if_neg (by rw [h]; decide), if_neg (by rw [h]; decide), if_neg (by rw [h]; decide), if_pos h]
  show bitsK m.kind 4 ++ (bitsK _ 31 ++ []) = _
  rw [List.append_nil]
theorem enc_6 {m : Msg} (h : m.kind = 6) : (carr m).enc = bitsK m.kind 4 ++ (bitsK m.seq 16 ++ ((bitsK m.pos.x 32 ++ (bitsK m.pos.y 32 ++ bitsK m.pos.z 32)) ++ (bitsK m.vel.x 32 ++ (bitsK m.vel.y 32 ++ bitsK m.vel.z 32)))) := by
  show bitsK m.kind 4 ++ (fieldsP m m.kind).enc = _
  unfold fieldsP
  rw [if_neg (by rw [h]; decide), if_neg (by rw [h]; decide), if_pos h]
  show bitsK m.kind 4 ++ (bitsK _ 16 ++ (bitsK _ 32 ++ (bitsK _ 32 ++ (bitsK _ 32 ++ (bitsK _ 32 ++ (bitsK _ 32 ++ (bitsK _ 32 ++ []))))))) = _
  simp only [List.append_nil, List.append_assoc]
theorem enc_7 {m : Msg} (h : m.kind = 7) : (carr m).enc = bitsK m.kind 4 ++ (bitsK m.prov 16 ++ bitsK m.id 31) := by
  show bitsK m.kind 4 ++ (fieldsP m m.kind).enc = _
  unfold fieldsP
  rw [if_neg (by rw [h]; decide), if_neg (by rw [h]; decide), if_neg (by rw [h]; decide), if_pos h]
  show bitsK m.kind 4 ++ (bitsK _ 16 ++ (bitsK _ 31 ++ [])) = _
  rw [List.append_nil]
theorem enc_8 {m : Msg} (h : m.kind = 8) : (carr m).enc = bitsK m.kind 4 ++ (bitsK m.prov 16 ++ bitsK m.why 4) := by
  show bitsK m.kind 4 ++ (fieldsP m m.kind).enc = _
  unfold fieldsP
  rw [if_neg (by rw [h]; decide), if_neg (by rw [h]; decide), if_neg (by rw [h]; decide), if_neg (by rw [h]; decide), if_neg (by rw [h]; decide), if_pos h]
  show bitsK m.kind 4 ++ (bitsK _ 16 ++ (bitsK _ 4 ++ [])) = _
  rw [List.append_nil]
theorem loadGo_unpack (bs : List Nat) (k : Nat) (acc : List Nat) (hk : k = bs.length) (hb : ∀ y ∈ bs, y < 256) : (loadGo bs k acc).enc = unpack bs := by
  induction k generalizing bs acc with
  | zero => rw [List.length_eq_zero_iff.1 hk.symm]; simp [loadGo, Pg.enc, unpack]
  | succ k ih =>
    cases bs with
    | nil => simp at hk
    | cons b bs =>
      have hb0 := hb b (by simp)
      have h1 : ((b : Int) % 2 ^ 64).toNat = b := by omega
      have h2 : bitsN (b : Nat) (uns 8) = low b 8 := by unfold bitsN; rw [h1]
      simp only [loadGo, Pg.enc, List.headD_cons, List.tail_cons, h2]
      rw [ih bs _ (by simpa using hk) (fun y hy => hb y (by simp [hy]))]
      simp [unpack]
theorem enc_9 {m : Msg} (h : m.kind = 9) (hb : ∀ y ∈ m.bytes, y < 256) : (carr m).enc = bitsK m.kind 4 ++ (bitsK m.tick 32 ++ (bitsK m.base 32 ++ (bitsK (m.bytes.length : Nat) 10 ++ unpack m.bytes))) := by
  show bitsK m.kind 4 ++ (fieldsP m m.kind).enc = _
  unfold fieldsP
  rw [if_neg (by rw [h]; decide), if_neg (by rw [h]; decide), if_neg (by rw [h]; decide), if_neg (by rw [h]; decide), if_neg (by rw [h]; decide), if_neg (by rw [h]; decide), if_pos h]
  show bitsK m.kind 4 ++ (bitsK _ 32 ++ (bitsK _ 32 ++ ((loadP m.bytes).bind _).enc)) = _
  rw [enc_bind]
  show bitsK m.kind 4 ++ (bitsK _ 32 ++ (bitsK _ 32 ++ ((bitsK _ 10 ++ (loadGo m.bytes ((m.bytes.length : Nat) : Int).toNat []).enc) ++ []))) = _
  rw [List.append_nil, Int.toNat_natCast, loadGo_unpack m.bytes _ _ rfl hb]
end Go.Proofs.Ytkmiogaklmgnkaa
