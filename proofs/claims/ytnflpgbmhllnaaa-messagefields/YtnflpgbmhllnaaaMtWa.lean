/- Layer 5 (message): the law MessageFields, letters 0 1 2. -/
import Derived.Test.YtnflpgbmhllnaaaMtW
namespace Go.Proofs.Ytnflpgbmhllnaaa
open Go.RowKit Go.Shelf
set_option linter.unusedVariables false
set_option linter.unusedSimpArgs false
attribute [local go_sem ↓] Go.wp_at_zero Go.wp_at_succ

set_option maxRecDepth 100000 in
set_option maxHeartbeats 8000000 in
theorem fields_0 (m : Msg) (p : Option Addr) (cap : Nat) (field n : Int) (w : World) (hm : MOk m) (ha : Arg w p m.bytes.length cap fun i => .int .u8 ((m.bytes.getD i 0 : Nat) : Int)) (K16 : Nat) (hmask : bits .and .i64 field 65535 = (K16 : Int)) (hrem : Int.tmod (K16 : Int) 12 = 0) :
    Calls Try.prog 7 #[.agg (msgC m (.slice p m.bytes.length cap)), .int .i64 field, .int .i64 n] w fun e w' => e = .returned (.bool true) ∧ Below w.heap.size w w' := by
  have hA1 := Bq.new w 40 #[.int .i64 m.kind, .int .u16 m.seq, .int .u16 m.cmd.seq, .int .u8 m.cmd.but, .int .i8 m.cmd.dx, .int .i8 m.cmd.dy, .int .i64 m.cmd.tk, .int .u16 m.prov, .int .i64 m.id, .int .i64 m.shot, .int .i64 m.dir.x, .int .i64 m.dir.y, .int .i64 m.dir.z, .int .i64 m.why, .int .i64 m.pos.x, .int .i64 m.pos.y, .int .i64 m.pos.z, .int .i64 m.vel.x, .int .i64 m.vel.y, .int .i64 m.vel.z, .int .u32 m.tick, .int .u32 m.base, .slice p m.bytes.length cap]
  have hB0 := (Below.refl w.heap.size w).alloc (Nat.le_refl _) (.cells #[.int .i64 m.kind, .int .u16 m.seq, .int .u16 m.cmd.seq, .int .u8 m.cmd.but, .int .i8 m.cmd.dx, .int .i8 m.cmd.dy, .int .i64 m.cmd.tk, .int .u16 m.prov, .int .i64 m.id, .int .i64 m.shot, .int .i64 m.dir.x, .int .i64 m.dir.y, .int .i64 m.dir.z, .int .i64 m.why, .int .i64 m.pos.x, .int .i64 m.pos.y, .int .i64 m.pos.z, .int .i64 m.vel.x, .int .i64 m.vel.y, .int .i64 m.vel.z, .int .u32 m.tick, .int .u32 m.base, .slice p m.bytes.length cap] 40)
  have hsh := shownF (w.alloc (.cells #[.int .i64 m.kind, .int .u16 m.seq, .int .u16 m.cmd.seq, .int .u8 m.cmd.but, .int .i8 m.cmd.dx, .int .i8 m.cmd.dy, .int .i64 m.cmd.tk, .int .u16 m.prov, .int .i64 m.id, .int .i64 m.shot, .int .i64 m.dir.x, .int .i64 m.dir.y, .int .i64 m.dir.z, .int .i64 m.why, .int .i64 m.pos.x, .int .i64 m.pos.y, .int .i64 m.pos.z, .int .i64 m.vel.x, .int .i64 m.vel.y, .int .i64 m.vel.z, .int .u32 m.tick, .int .u32 m.base, .slice p m.bytes.length cap] 40))
  have hcm : msgC m (.slice p m.bytes.length cap) = #[.int .i64 m.kind, .int .u16 m.seq, .int .u16 m.cmd.seq, .int .u8 m.cmd.but, .int .i8 m.cmd.dx, .int .i8 m.cmd.dy, .int .i64 m.cmd.tk, .int .u16 m.prov, .int .i64 m.id, .int .i64 m.shot, .int .i64 m.dir.x, .int .i64 m.dir.y, .int .i64 m.dir.z, .int .i64 m.why, .int .i64 m.pos.x, .int .i64 m.pos.y, .int .i64 m.pos.z, .int .i64 m.vel.x, .int .i64 m.vel.y, .int .i64 m.vel.z, .int .u32 m.tick, .int .u32 m.base, .slice p m.bytes.length cap] := rfl
  have hR := fun (u : World) (hb : Below w.heap.size w u) => rightF m p cap u hm (ha.keep hb)
  rw [hcm] at hR ⊢
  obtain ⟨s, hs, hs0⟩ : ∃ s : Int, IntKind.u16.wrap n = s ∧ (0 ≤ s ∧ s ≤ 65535) := ⟨_, rfl, wrap16 n⟩
  obtain ⟨mb, hmb⟩ : ∃ b, (s == (0 : Int)) = b := ⟨_, rfl⟩
  have HMB := hid (show decide (s = 0) = mb by rw [← hmb]; exact (beq_dec s).symm)
  have HR := hid hR; have HA := hid hA1; have HB := hid hB0; have HM := hid hm; have HAR := hid ha
  clear hR hA1 hB0 hcm hm ha
  go_enter Try.func7, Try.ntmps7
  go_wp2_with fail
  refine hsh.mono ?_
  rintro e u1 ⟨rfl, hb1⟩
  dsimp only
  have HA1 := hid (HA.out.below hb1)
  have HB1 := hid (btrans HB.out hb1)
  clear hsh hb1 HA HB
  go_wp2_with (refine wpList_load_row rfl 40 _ rfl w.heap.size rfl 40 _ (0, 0) _ HA1.out.obj Try.underlying40 rfl size_msg ?_)
  refine (HR.out _ HB1.out).mono ?_
  rintro e u2 ⟨rfl, hb2⟩
  dsimp only
  have HB2 := hid (btrans HB1.out hb2)
  have HA2 := hid (HA1.out.below hb2)
  clear hb2 HR HA1 HB1
  cases hr : rgtB m
  · go_wp2_with fail
    go_ret
    exact ⟨rfl, HB2.out⟩
  obtain ⟨k, hk, hk9, ho, hf⟩ := rgt_parts HM.out ((rgtB_iff m).1 hr)
  obtain ⟨hXok, hrg⟩ := fl0 HM.out hk hk9 ho hf s hs0
  have HRG := hid hrg
  have hRX : ∀ u, Below w.heap.size w u → _ := fun (u : World) (hb : Below w.heap.size w u) => rightF { m with seq := s } p cap u hXok (HAR.out.keep hb)
  have hcX : msgC { m with seq := s } (.slice p ({ m with seq := s } : Msg).bytes.length cap) = #[.int .i64 m.kind, .int .u16 s, .int .u16 m.cmd.seq, .int .u8 m.cmd.but, .int .i8 m.cmd.dx, .int .i8 m.cmd.dy, .int .i64 m.cmd.tk, .int .u16 m.prov, .int .i64 m.id, .int .i64 m.shot, .int .i64 m.dir.x, .int .i64 m.dir.y, .int .i64 m.dir.z, .int .i64 m.why, .int .i64 m.pos.x, .int .i64 m.pos.y, .int .i64 m.pos.z, .int .i64 m.vel.x, .int .i64 m.vel.y, .int .i64 m.vel.z, .int .u32 m.tick, .int .u32 m.base, .slice p m.bytes.length cap] := rfl
  rw [hcX] at hRX
  have HRX0 := hid hRX
  have c0 : u2.cell? ⟨w.heap.size, 0, none⟩ = some (.int .i64 (k : Int)) := by rw [← hk]; exact HA2.out.cell (i := 0) rfl
  have hcell : (u2.alloc (.cells strRow 9)).cell? ⟨u2.heap.size, k, none⟩ = some (.string (strAt k)) := by rw [cell_of_row _ _ _ _ _ _ (heap_alloc_new u2 _)]; exact strRow_at (by omega)
  unfold strRow at hcell
  have hk10 : (k : Int) < 10 := by omega
  have HANY := hid (anyH_is hk9 (f := 0) (by decide) 83 rfl)
  have hHs := strAt_size hk9
  clear hr ho hf hk hk9 hRX hcX hXok hrg
  generalize strAt k = H at *
  have d1 := HA2.out.lt
  go_upto_region 7 with fail
  clear c0 hcell
  generalize hu3 : (u2.alloc (.cells #[.string { data := #[] }, .string { data := #[] }, .string { data := #[67] }, .string { data := #[112, 100, 115] }, .string { data := #[] }, .string { data := #[73] }, .string { data := #[83, 86, 87] }, .string { data := #[112, 73] }, .string { data := #[112, 121] }, .string { data := #[84, 116, 66] }] 9)) = u3
  have HA3 := hid (show Bq u3 w.heap.size 40 #[.int .i64 m.kind, .int .u16 m.seq, .int .u16 m.cmd.seq, .int .u8 m.cmd.but, .int .i8 m.cmd.dx, .int .i8 m.cmd.dy, .int .i64 m.cmd.tk, .int .u16 m.prov, .int .i64 m.id, .int .i64 m.shot, .int .i64 m.dir.x, .int .i64 m.dir.y, .int .i64 m.dir.z, .int .i64 m.why, .int .i64 m.pos.x, .int .i64 m.pos.y, .int .i64 m.pos.z, .int .i64 m.vel.x, .int .i64 m.vel.y, .int .i64 m.vel.z, .int .u32 m.tick, .int .u32 m.base, .slice p m.bytes.length cap] by rw [← hu3]; exact HA2.out.alloc _)
  have HB3 := hid (show Below w.heap.size w u3 by rw [← hu3]; exact HB2.out.alloc HB2.out.size _)
  clear hu3 d1 HA2 HB2
  go_upto_region 46 with (first
    | (refine wpList_load_row rfl 40 _ rfl w.heap.size rfl 40 _ (0, 0) _ HA3.out.obj Try.underlying40 rfl size_msg ?_)
    | (refine wpList_store_row rfl 40 _ _ rfl u3.heap.size #[.int .i64 m.kind, .int .u16 m.seq, .int .u16 m.cmd.seq, .int .u8 m.cmd.but, .int .i8 m.cmd.dx, .int .i8 m.cmd.dy, .int .i64 m.cmd.tk, .int .u16 m.prov, .int .i64 m.id, .int .i64 m.shot, .int .i64 m.dir.x, .int .i64 m.dir.y, .int .i64 m.dir.z, .int .i64 m.why, .int .i64 m.pos.x, .int .i64 m.pos.y, .int .i64 m.pos.z, .int .i64 m.vel.x, .int .i64 m.vel.y, .int .i64 m.vel.z, .int .u32 m.tick, .int .u32 m.base, .slice p m.bytes.length cap] rfl rfl 40 #[.int .i64 0, .int .u16 0, .int .u16 0, .int .u8 0, .int .i8 0, .int .i8 0, .int .i64 0, .int .u16 0, .int .i64 0, .int .i64 0, .int .i64 0, .int .i64 0, .int .i64 0, .int .i64 0, .int .i64 0, .int .i64 0, .int .i64 0, .int .i64 0, .int .i64 0, .int .i64 0, .int .u32 0, .int .u32 0, .slice none 0 0] (heap_alloc_new u3 _) size_msg rfl one23 ?_; rw [World.setRow_alloc_new]))
  generalize hu4 : (u3.alloc (.cells #[.int .i64 m.kind, .int .u16 s, .int .u16 m.cmd.seq, .int .u8 m.cmd.but, .int .i8 m.cmd.dx, .int .i8 m.cmd.dy, .int .i64 m.cmd.tk, .int .u16 m.prov, .int .i64 m.id, .int .i64 m.shot, .int .i64 m.dir.x, .int .i64 m.dir.y, .int .i64 m.dir.z, .int .i64 m.why, .int .i64 m.pos.x, .int .i64 m.pos.y, .int .i64 m.pos.z, .int .i64 m.vel.x, .int .i64 m.vel.y, .int .i64 m.vel.z, .int .u32 m.tick, .int .u32 m.base, .slice p m.bytes.length cap] 40)) = u4
  obtain ⟨N2, hN2⟩ : ∃ N2, u3.heap.size = N2 := ⟨_, rfl⟩
  have HX := hid (show Bq u4 N2 40 #[.int .i64 m.kind, .int .u16 s, .int .u16 m.cmd.seq, .int .u8 m.cmd.but, .int .i8 m.cmd.dx, .int .i8 m.cmd.dy, .int .i64 m.cmd.tk, .int .u16 m.prov, .int .i64 m.id, .int .i64 m.shot, .int .i64 m.dir.x, .int .i64 m.dir.y, .int .i64 m.dir.z, .int .i64 m.why, .int .i64 m.pos.x, .int .i64 m.pos.y, .int .i64 m.pos.z, .int .i64 m.vel.x, .int .i64 m.vel.y, .int .i64 m.vel.z, .int .u32 m.tick, .int .u32 m.base, .slice p m.bytes.length cap] by rw [← hu4, ← hN2]; exact Bq.new u3 _ _)
  have HB4 := hid (show Below w.heap.size w u4 by rw [← hu4]; exact HB3.out.alloc HB3.out.size _)
  rw [hN2]
  clear hu4 hN2 HA3 HB3
  generalize Value.agg #[.int .i64 m.kind, .int .u16 m.seq, .int .u16 m.cmd.seq, .int .u8 m.cmd.but, .int .i8 m.cmd.dx, .int .i8 m.cmd.dy, .int .i64 m.cmd.tk, .int .u16 m.prov, .int .i64 m.id, .int .i64 m.shot, .int .i64 m.dir.x, .int .i64 m.dir.y, .int .i64 m.dir.z, .int .i64 m.why, .int .i64 m.pos.x, .int .i64 m.pos.y, .int .i64 m.pos.z, .int .i64 m.vel.x, .int .i64 m.vel.y, .int .i64 m.vel.z, .int .u32 m.tick, .int .u32 m.base, .slice p m.bytes.length cap] = va
  have hl : ((({ data := #[83, 67, 112, 73, 100, 115, 121, 86, 87, 84, 116, 66] } : ByteArray)[0]'(by decide)).toNat : Int) = 83 := rfl
  go_wp2_with fail
  go_loopw [13, 14] (fun th i wr => ∃ (j : Nat), i = .int .i64 (j : Int) ∧ j ≤ H.size ∧ th = .bool (anyH H 83 j) ∧ Below u4.heap.size u4 wr) (fun _ i _ => H.size - (intOf i).toNat)
  case atStart => exact ⟨0, rfl, Nat.zero_le _, rfl, Below.refl _ _⟩
  case round =>
    obtain ⟨j, rfl, hj, rfl, hb⟩ := hrel
    have HBJ := hid hb
    clear hb
    by_cases hlt : j < H.size
    · obtain ⟨bj, hbj⟩ : ∃ b, ((((H[j]'hlt).toNat : Nat) : Int) == 83) = b := ⟨_, rfl⟩
      have hnx : anyH H 83 (j + 1) = (anyH H 83 j || bj) := by rw [← hbj]; exact anyH_succ hlt
      have HNX := hid hnx
      clear hnx
      have i1 : (j : Int) < (H.size : Int) := by omega
      cases hth : anyH H 83 j
      · rw [hth] at HNX
        go_wp2_with fail
        refine region_held (fun u => Below wr.heap.size wr u) 11 rfl (by kernel_rfl) (below_drewN wr 1) ?_
        intro hHeld
        refine takeO 0 (some 136) (v := ?v1) rfl rfl (by kernel_rfl) (by kernel_rfl) (by kernel_rfl) (Or.inl ⟨by rfl, ?y1⟩) hHeld ?r1
        case y1 => (intro w' hSw; (try dsimp only at hSw); go_simp; try with_reducible rfl)
        try simp only [Act.put, List.setIfInBounds_toArray, List.set_cons_zero, List.set_cons_succ]
        refine takeO 1 (some 137) (v := ?v2) rfl rfl (by kernel_rfl) (by kernel_rfl) (by kernel_rfl) (Or.inl ⟨by rfl, ?y2⟩) hHeld ?r2
        case y2 => (intro w' hSw; (try dsimp only at hSw); go_simp; try with_reducible rfl)
        try simp only [Act.put, List.setIfInBounds_toArray, List.set_cons_zero, List.set_cons_succ]
        refine takeO 2 (some 138) (v := ?v3) rfl rfl (by kernel_rfl) (by kernel_rfl) (by kernel_rfl) (Or.inl ⟨by rfl, ?y3⟩) hHeld ?r3
        case y3 => (intro w' hSw; (try dsimp only at hSw); go_simp; try with_reducible rfl)
        try simp only [Act.put, List.setIfInBounds_toArray, List.set_cons_zero, List.set_cons_succ]
        refine takeO 3 (some 139) (v := ?v4) rfl rfl (by kernel_rfl) (by kernel_rfl) (by kernel_rfl) (Or.inl ⟨by rfl, ?y4⟩) hHeld ?r4
        case y4 => (intro w' hSw; (try dsimp only at hSw); go_simp; try with_reducible rfl)
        try simp only [Act.put, List.setIfInBounds_toArray, List.set_cons_zero, List.set_cons_succ]
        refine takeO 4 (some 140) (v := ?v5) rfl rfl (by kernel_rfl) (by kernel_rfl) (by kernel_rfl) (Or.inl ⟨by rfl, ?y5⟩) hHeld ?r5
        case y5 => (intro w' hSw; (try dsimp only at hSw); go_simp; try with_reducible rfl)
        try simp only [Act.put, List.setIfInBounds_toArray, List.set_cons_zero, List.set_cons_succ]
        refine takeO 5 (some 141) (v := ?v6) rfl rfl (by kernel_rfl) (by kernel_rfl) (by kernel_rfl) (Or.inl ⟨by rfl, ?y6⟩) hHeld ?r6
        case y6 => (intro w' hSw; (try dsimp only at hSw); go_simp; try with_reducible rfl)
        try simp only [Act.put, List.setIfInBounds_toArray, List.set_cons_zero, List.set_cons_succ]
        refine takeO 6 (some 142) (v := ?v7) rfl rfl (by kernel_rfl) (by kernel_rfl) (by kernel_rfl) (Or.inl ⟨by rfl, ?y7⟩) hHeld ?r7
        case y7 => (intro w' hSw; (try dsimp only at hSw); go_simp; try with_reducible rfl)
        try simp only [Act.put, List.setIfInBounds_toArray, List.set_cons_zero, List.set_cons_succ]
        refine takeO 7 (some 143) (v := ?v8) rfl rfl (by kernel_rfl) (by kernel_rfl) (by kernel_rfl) (Or.inl ⟨by rfl, ?y8⟩) hHeld ?r8
        case y8 => (intro w' hSw; (try dsimp only at hSw); go_simp; try with_reducible rfl)
        try simp only [Act.put, List.setIfInBounds_toArray, List.set_cons_zero, List.set_cons_succ]
        refine takeO 8 (some 144) (v := ?v9) rfl rfl (by kernel_rfl) (by kernel_rfl) (by kernel_rfl) (Or.inl ⟨by rfl, ?y9⟩) hHeld ?r9
        case y9 => (intro w' hSw; (try dsimp only at hSw); go_simp; try with_reducible rfl)
        try simp only [Act.put, List.setIfInBounds_toArray, List.set_cons_zero, List.set_cons_succ]
        refine takeO 9 (some 145) (v := ?v10) rfl rfl (by kernel_rfl) (by kernel_rfl) (by kernel_rfl) (Or.inl ⟨by rfl, ?y10⟩) hHeld ?r10
        case y10 => (intro w' hSw; (try dsimp only at hSw); go_simp; try with_reducible rfl)
        try simp only [Act.put, List.setIfInBounds_toArray, List.set_cons_zero, List.set_cons_succ]
        refine takeO 10 (some 13) (v := ?v11) rfl rfl (by kernel_rfl) (by kernel_rfl) (by kernel_rfl) (Or.inl ⟨by rfl, ?y11⟩) hHeld ?r11
        case y11 => (intro w' hSw; (try dsimp only at hSw); go_simp; try with_reducible rfl)
        try simp only [Act.put, List.setIfInBounds_toArray, List.set_cons_zero, List.set_cons_succ]
        refine wpAnyH_done (by kernel_rfl) (Only.on ?_) _
        clear hHeld
        go_wp2_with fail
        go_roundw
        case rel => exact ⟨j + 1, by go_num, hlt, by rw [HNX.out]; rfl, btrans HBJ.out (below_drewN wr 1)⟩
        case measure => simp [intOf]; omega
      · rw [hth] at HNX
        go_wp2_with fail
        refine region_held (fun u => Below wr.heap.size wr u) 11 rfl (by kernel_rfl) (below_drewN wr 1) ?_
        intro hHeld
        refine takeO 0 (some 136) (v := ?v12) rfl rfl (by kernel_rfl) (by kernel_rfl) (by kernel_rfl) (Or.inl ⟨by rfl, ?y12⟩) hHeld ?r12
        case y12 => (intro w' hSw; (try dsimp only at hSw); go_simp; try with_reducible rfl)
        try simp only [Act.put, List.setIfInBounds_toArray, List.set_cons_zero, List.set_cons_succ]
        refine takeO 1 (some 137) (v := ?v13) rfl rfl (by kernel_rfl) (by kernel_rfl) (by kernel_rfl) (Or.inl ⟨by rfl, ?y13⟩) hHeld ?r13
        case y13 => (intro w' hSw; (try dsimp only at hSw); go_simp; try with_reducible rfl)
        try simp only [Act.put, List.setIfInBounds_toArray, List.set_cons_zero, List.set_cons_succ]
        refine takeO 2 (some 138) rfl rfl (by kernel_rfl) (by kernel_rfl) (by kernel_rfl) (Or.inr ⟨by rfl, rfl⟩) hHeld ?_
        try simp only [Act.put, List.setIfInBounds_toArray, List.set_cons_zero, List.set_cons_succ]
        refine takeO 3 (some 139) rfl rfl (by kernel_rfl) (by kernel_rfl) (by kernel_rfl) (Or.inr ⟨by rfl, rfl⟩) hHeld ?_
        try simp only [Act.put, List.setIfInBounds_toArray, List.set_cons_zero, List.set_cons_succ]
        refine takeO 4 (some 140) rfl rfl (by kernel_rfl) (by kernel_rfl) (by kernel_rfl) (Or.inr ⟨by rfl, rfl⟩) hHeld ?_
        try simp only [Act.put, List.setIfInBounds_toArray, List.set_cons_zero, List.set_cons_succ]
        refine takeO 5 (some 141) rfl rfl (by kernel_rfl) (by kernel_rfl) (by kernel_rfl) (Or.inr ⟨by rfl, rfl⟩) hHeld ?_
        try simp only [Act.put, List.setIfInBounds_toArray, List.set_cons_zero, List.set_cons_succ]
        refine takeO 6 (some 142) rfl rfl (by kernel_rfl) (by kernel_rfl) (by kernel_rfl) (Or.inr ⟨by rfl, rfl⟩) hHeld ?_
        try simp only [Act.put, List.setIfInBounds_toArray, List.set_cons_zero, List.set_cons_succ]
        refine takeO 7 (some 143) rfl rfl (by kernel_rfl) (by kernel_rfl) (by kernel_rfl) (Or.inr ⟨by rfl, rfl⟩) hHeld ?_
        try simp only [Act.put, List.setIfInBounds_toArray, List.set_cons_zero, List.set_cons_succ]
        refine takeO 8 (some 144) rfl rfl (by kernel_rfl) (by kernel_rfl) (by kernel_rfl) (Or.inr ⟨by rfl, rfl⟩) hHeld ?_
        try simp only [Act.put, List.setIfInBounds_toArray, List.set_cons_zero, List.set_cons_succ]
        refine takeO 9 (some 145) (v := ?v14) rfl rfl (by kernel_rfl) (by kernel_rfl) (by kernel_rfl) (Or.inl ⟨by rfl, ?y14⟩) hHeld ?r14
        case y14 => (intro w' hSw; (try dsimp only at hSw); go_simp; try with_reducible rfl)
        try simp only [Act.put, List.setIfInBounds_toArray, List.set_cons_zero, List.set_cons_succ]
        refine takeO 10 (some 13) (v := ?v15) rfl rfl (by kernel_rfl) (by kernel_rfl) (by kernel_rfl) (Or.inl ⟨by rfl, ?y15⟩) hHeld ?r15
        case y15 => (intro w' hSw; (try dsimp only at hSw); go_simp; try with_reducible rfl)
        try simp only [Act.put, List.setIfInBounds_toArray, List.set_cons_zero, List.set_cons_succ]
        refine wpAnyH_done (by kernel_rfl) (Only.on ?_) _
        clear hHeld
        go_wp2_with fail
        go_roundw
        case rel => exact ⟨j + 1, by go_num, hlt, by rw [HNX.out]; rfl, btrans HBJ.out (below_drewN wr 1)⟩
        case measure => simp [intOf]; omega
    · have hjn : j = H.size := by omega
      subst hjn
      have i1 : ¬ (H.size : Int) < (H.size : Int) := by omega
      have HXR := hid (HX.out.below HBJ.out)
      have HBR := hid (btrans HB4.out HBJ.out)
      have hRX := HRX0.out
      rw [HANY.out]
      cases hT : (hasL k).contains 0
      · have HT := hid hT
        clear hT HX HB4 HBJ HRX0 HANY
        have hv : rgtB { m with seq := s } = mb := by rw [HRG.out]; rw [if_neg (by rw [HT.out]; decide)]; exact HMB.out
        rw [hv] at hRX
        have HRX := hid hRX
        clear hRX hv
        go_wp2_with (refine wpList_load_rowG (by rfl) 40 _ rfl N2 rfl 40 #[.int .i64 m.kind, .int .u16 s, .int .u16 m.cmd.seq, .int .u8 m.cmd.but, .int .i8 m.cmd.dx, .int .i8 m.cmd.dy, .int .i64 m.cmd.tk, .int .u16 m.prov, .int .i64 m.id, .int .i64 m.shot, .int .i64 m.dir.x, .int .i64 m.dir.y, .int .i64 m.dir.z, .int .i64 m.why, .int .i64 m.pos.x, .int .i64 m.pos.y, .int .i64 m.pos.z, .int .i64 m.vel.x, .int .i64 m.vel.y, .int .i64 m.vel.z, .int .u32 m.tick, .int .u32 m.base, .slice p m.bytes.length cap] (0, 0) _ HXR.out.obj Try.underlying40 rfl size_msg ?_)
        refine (HRX.out wr HBR.out).mono ?_
        rintro e u9 ⟨rfl, hb9⟩
        dsimp only
        have HB9 := hid (btrans HBR.out hb9)
        clear hb9 HRX
        go_wp2_with fail
        go_ret
        exact ⟨rfl, HB9.out⟩
      · have HT := hid hT
        clear hT HX HB4 HBJ HRX0 HANY
        have hv : rgtB { m with seq := s } = true := by rw [HRG.out]; rw [if_pos HT.out]
        rw [hv] at hRX
        have HRX := hid hRX
        clear hRX hv
        go_wp2_with (refine wpList_load_rowG (by rfl) 40 _ rfl N2 rfl 40 #[.int .i64 m.kind, .int .u16 s, .int .u16 m.cmd.seq, .int .u8 m.cmd.but, .int .i8 m.cmd.dx, .int .i8 m.cmd.dy, .int .i64 m.cmd.tk, .int .u16 m.prov, .int .i64 m.id, .int .i64 m.shot, .int .i64 m.dir.x, .int .i64 m.dir.y, .int .i64 m.dir.z, .int .i64 m.why, .int .i64 m.pos.x, .int .i64 m.pos.y, .int .i64 m.pos.z, .int .i64 m.vel.x, .int .i64 m.vel.y, .int .i64 m.vel.z, .int .u32 m.tick, .int .u32 m.base, .slice p m.bytes.length cap] (0, 0) _ HXR.out.obj Try.underlying40 rfl size_msg ?_)
        refine (HRX.out wr HBR.out).mono ?_
        rintro e u9 ⟨rfl, hb9⟩
        dsimp only
        have HB9 := hid (btrans HBR.out hb9)
        clear hb9 HRX
        go_wp2_with fail
        go_ret
        exact ⟨rfl, HB9.out⟩
set_option maxRecDepth 100000 in
set_option maxHeartbeats 8000000 in
theorem fields_1 (m : Msg) (p : Option Addr) (cap : Nat) (field n : Int) (w : World) (hm : MOk m) (ha : Arg w p m.bytes.length cap fun i => .int .u8 ((m.bytes.getD i 0 : Nat) : Int)) (K16 : Nat) (hmask : bits .and .i64 field 65535 = (K16 : Int)) (hrem : Int.tmod (K16 : Int) 12 = 1) :
    Calls Try.prog 7 #[.agg (msgC m (.slice p m.bytes.length cap)), .int .i64 field, .int .i64 n] w fun e w' => e = .returned (.bool true) ∧ Below w.heap.size w w' := by
  have hA1 := Bq.new w 40 #[.int .i64 m.kind, .int .u16 m.seq, .int .u16 m.cmd.seq, .int .u8 m.cmd.but, .int .i8 m.cmd.dx, .int .i8 m.cmd.dy, .int .i64 m.cmd.tk, .int .u16 m.prov, .int .i64 m.id, .int .i64 m.shot, .int .i64 m.dir.x, .int .i64 m.dir.y, .int .i64 m.dir.z, .int .i64 m.why, .int .i64 m.pos.x, .int .i64 m.pos.y, .int .i64 m.pos.z, .int .i64 m.vel.x, .int .i64 m.vel.y, .int .i64 m.vel.z, .int .u32 m.tick, .int .u32 m.base, .slice p m.bytes.length cap]
  have hB0 := (Below.refl w.heap.size w).alloc (Nat.le_refl _) (.cells #[.int .i64 m.kind, .int .u16 m.seq, .int .u16 m.cmd.seq, .int .u8 m.cmd.but, .int .i8 m.cmd.dx, .int .i8 m.cmd.dy, .int .i64 m.cmd.tk, .int .u16 m.prov, .int .i64 m.id, .int .i64 m.shot, .int .i64 m.dir.x, .int .i64 m.dir.y, .int .i64 m.dir.z, .int .i64 m.why, .int .i64 m.pos.x, .int .i64 m.pos.y, .int .i64 m.pos.z, .int .i64 m.vel.x, .int .i64 m.vel.y, .int .i64 m.vel.z, .int .u32 m.tick, .int .u32 m.base, .slice p m.bytes.length cap] 40)
  have hsh := shownF (w.alloc (.cells #[.int .i64 m.kind, .int .u16 m.seq, .int .u16 m.cmd.seq, .int .u8 m.cmd.but, .int .i8 m.cmd.dx, .int .i8 m.cmd.dy, .int .i64 m.cmd.tk, .int .u16 m.prov, .int .i64 m.id, .int .i64 m.shot, .int .i64 m.dir.x, .int .i64 m.dir.y, .int .i64 m.dir.z, .int .i64 m.why, .int .i64 m.pos.x, .int .i64 m.pos.y, .int .i64 m.pos.z, .int .i64 m.vel.x, .int .i64 m.vel.y, .int .i64 m.vel.z, .int .u32 m.tick, .int .u32 m.base, .slice p m.bytes.length cap] 40))
  have hcm : msgC m (.slice p m.bytes.length cap) = #[.int .i64 m.kind, .int .u16 m.seq, .int .u16 m.cmd.seq, .int .u8 m.cmd.but, .int .i8 m.cmd.dx, .int .i8 m.cmd.dy, .int .i64 m.cmd.tk, .int .u16 m.prov, .int .i64 m.id, .int .i64 m.shot, .int .i64 m.dir.x, .int .i64 m.dir.y, .int .i64 m.dir.z, .int .i64 m.why, .int .i64 m.pos.x, .int .i64 m.pos.y, .int .i64 m.pos.z, .int .i64 m.vel.x, .int .i64 m.vel.y, .int .i64 m.vel.z, .int .u32 m.tick, .int .u32 m.base, .slice p m.bytes.length cap] := rfl
  have hR := fun (u : World) (hb : Below w.heap.size w u) => rightF m p cap u hm (ha.keep hb)
  rw [hcm] at hR ⊢
  obtain ⟨mb, hmb⟩ : ∃ b, decide ({ m.cmd with tk := n } = c0) = b := ⟨_, rfl⟩
  have hq : ∀ w, (binOp .eql 35 (.agg #[.int .u16 m.cmd.seq, .int .u8 m.cmd.but, .int .i8 m.cmd.dx, .int .i8 m.cmd.dy, .int .i64 n]) (.agg #[.int .u16 0, .int .u8 0, .int .i8 0, .int .i8 0, .int .i64 0])).run Try.prog w = .ok (.bool mb) w := fun w => by rw [← hmb]; exact cmd_eq { m.cmd with tk := n } c0 w
  replace hmb := hid hmb
  have HMB := hid hmb.out
  have HR := hid hR; have HA := hid hA1; have HB := hid hB0; have HM := hid hm; have HAR := hid ha
  clear hR hA1 hB0 hcm hm ha
  go_enter Try.func7, Try.ntmps7
  go_wp2_with fail
  refine hsh.mono ?_
  rintro e u1 ⟨rfl, hb1⟩
  dsimp only
  have HA1 := hid (HA.out.below hb1)
  have HB1 := hid (btrans HB.out hb1)
  clear hsh hb1 HA HB
  go_wp2_with (refine wpList_load_row rfl 40 _ rfl w.heap.size rfl 40 _ (0, 0) _ HA1.out.obj Try.underlying40 rfl size_msg ?_)
  refine (HR.out _ HB1.out).mono ?_
  rintro e u2 ⟨rfl, hb2⟩
  dsimp only
  have HB2 := hid (btrans HB1.out hb2)
  have HA2 := hid (HA1.out.below hb2)
  clear hb2 HR HA1 HB1
  cases hr : rgtB m
  · go_wp2_with fail
    go_ret
    exact ⟨rfl, HB2.out⟩
  obtain ⟨k, hk, hk9, ho, hf⟩ := rgt_parts HM.out ((rgtB_iff m).1 hr)
  obtain ⟨hXok, hrg⟩ := fl1 HM.out hk hk9 ho hf n
  have HRG := hid hrg
  have hRX : ∀ u, Below w.heap.size w u → _ := fun (u : World) (hb : Below w.heap.size w u) => rightF { m with cmd := { m.cmd with tk := n } } p cap u hXok (HAR.out.keep hb)
  have hcX : msgC { m with cmd := { m.cmd with tk := n } } (.slice p ({ m with cmd := { m.cmd with tk := n } } : Msg).bytes.length cap) = #[.int .i64 m.kind, .int .u16 m.seq, .int .u16 m.cmd.seq, .int .u8 m.cmd.but, .int .i8 m.cmd.dx, .int .i8 m.cmd.dy, .int .i64 n, .int .u16 m.prov, .int .i64 m.id, .int .i64 m.shot, .int .i64 m.dir.x, .int .i64 m.dir.y, .int .i64 m.dir.z, .int .i64 m.why, .int .i64 m.pos.x, .int .i64 m.pos.y, .int .i64 m.pos.z, .int .i64 m.vel.x, .int .i64 m.vel.y, .int .i64 m.vel.z, .int .u32 m.tick, .int .u32 m.base, .slice p m.bytes.length cap] := rfl
  rw [hcX] at hRX
  have HRX0 := hid hRX
  have c0 : u2.cell? ⟨w.heap.size, 0, none⟩ = some (.int .i64 (k : Int)) := by rw [← hk]; exact HA2.out.cell (i := 0) rfl
  have hcell : (u2.alloc (.cells strRow 9)).cell? ⟨u2.heap.size, k, none⟩ = some (.string (strAt k)) := by rw [cell_of_row _ _ _ _ _ _ (heap_alloc_new u2 _)]; exact strRow_at (by omega)
  unfold strRow at hcell
  have hk10 : (k : Int) < 10 := by omega
  have HANY := hid (anyH_is hk9 (f := 1) (by decide) 67 rfl)
  have hHs := strAt_size hk9
  clear hr ho hf hk hk9 hRX hcX hXok hrg
  generalize strAt k = H at *
  have d1 := HA2.out.lt
  go_upto_region 7 with fail
  clear c0 hcell
  generalize hu3 : (u2.alloc (.cells #[.string { data := #[] }, .string { data := #[] }, .string { data := #[67] }, .string { data := #[112, 100, 115] }, .string { data := #[] }, .string { data := #[73] }, .string { data := #[83, 86, 87] }, .string { data := #[112, 73] }, .string { data := #[112, 121] }, .string { data := #[84, 116, 66] }] 9)) = u3
  have HA3 := hid (show Bq u3 w.heap.size 40 #[.int .i64 m.kind, .int .u16 m.seq, .int .u16 m.cmd.seq, .int .u8 m.cmd.but, .int .i8 m.cmd.dx, .int .i8 m.cmd.dy, .int .i64 m.cmd.tk, .int .u16 m.prov, .int .i64 m.id, .int .i64 m.shot, .int .i64 m.dir.x, .int .i64 m.dir.y, .int .i64 m.dir.z, .int .i64 m.why, .int .i64 m.pos.x, .int .i64 m.pos.y, .int .i64 m.pos.z, .int .i64 m.vel.x, .int .i64 m.vel.y, .int .i64 m.vel.z, .int .u32 m.tick, .int .u32 m.base, .slice p m.bytes.length cap] by rw [← hu3]; exact HA2.out.alloc _)
  have HB3 := hid (show Below w.heap.size w u3 by rw [← hu3]; exact HB2.out.alloc HB2.out.size _)
  clear hu3 d1 HA2 HB2
  go_upto_region 46 with (first
    | (refine wpList_load_row rfl 40 _ rfl w.heap.size rfl 40 _ (0, 0) _ HA3.out.obj Try.underlying40 rfl size_msg ?_)
    | (refine wpList_store_row rfl 40 _ _ rfl u3.heap.size #[.int .i64 m.kind, .int .u16 m.seq, .int .u16 m.cmd.seq, .int .u8 m.cmd.but, .int .i8 m.cmd.dx, .int .i8 m.cmd.dy, .int .i64 m.cmd.tk, .int .u16 m.prov, .int .i64 m.id, .int .i64 m.shot, .int .i64 m.dir.x, .int .i64 m.dir.y, .int .i64 m.dir.z, .int .i64 m.why, .int .i64 m.pos.x, .int .i64 m.pos.y, .int .i64 m.pos.z, .int .i64 m.vel.x, .int .i64 m.vel.y, .int .i64 m.vel.z, .int .u32 m.tick, .int .u32 m.base, .slice p m.bytes.length cap] rfl rfl 40 #[.int .i64 0, .int .u16 0, .int .u16 0, .int .u8 0, .int .i8 0, .int .i8 0, .int .i64 0, .int .u16 0, .int .i64 0, .int .i64 0, .int .i64 0, .int .i64 0, .int .i64 0, .int .i64 0, .int .i64 0, .int .i64 0, .int .i64 0, .int .i64 0, .int .i64 0, .int .i64 0, .int .u32 0, .int .u32 0, .slice none 0 0] (heap_alloc_new u3 _) size_msg rfl one23 ?_; rw [World.setRow_alloc_new]))
  generalize hu4 : (u3.alloc (.cells #[.int .i64 m.kind, .int .u16 m.seq, .int .u16 m.cmd.seq, .int .u8 m.cmd.but, .int .i8 m.cmd.dx, .int .i8 m.cmd.dy, .int .i64 n, .int .u16 m.prov, .int .i64 m.id, .int .i64 m.shot, .int .i64 m.dir.x, .int .i64 m.dir.y, .int .i64 m.dir.z, .int .i64 m.why, .int .i64 m.pos.x, .int .i64 m.pos.y, .int .i64 m.pos.z, .int .i64 m.vel.x, .int .i64 m.vel.y, .int .i64 m.vel.z, .int .u32 m.tick, .int .u32 m.base, .slice p m.bytes.length cap] 40)) = u4
  obtain ⟨N2, hN2⟩ : ∃ N2, u3.heap.size = N2 := ⟨_, rfl⟩
  have HX := hid (show Bq u4 N2 40 #[.int .i64 m.kind, .int .u16 m.seq, .int .u16 m.cmd.seq, .int .u8 m.cmd.but, .int .i8 m.cmd.dx, .int .i8 m.cmd.dy, .int .i64 n, .int .u16 m.prov, .int .i64 m.id, .int .i64 m.shot, .int .i64 m.dir.x, .int .i64 m.dir.y, .int .i64 m.dir.z, .int .i64 m.why, .int .i64 m.pos.x, .int .i64 m.pos.y, .int .i64 m.pos.z, .int .i64 m.vel.x, .int .i64 m.vel.y, .int .i64 m.vel.z, .int .u32 m.tick, .int .u32 m.base, .slice p m.bytes.length cap] by rw [← hu4, ← hN2]; exact Bq.new u3 _ _)
  have HB4 := hid (show Below w.heap.size w u4 by rw [← hu4]; exact HB3.out.alloc HB3.out.size _)
  rw [hN2]
  clear hu4 hN2 HA3 HB3
  generalize Value.agg #[.int .i64 m.kind, .int .u16 m.seq, .int .u16 m.cmd.seq, .int .u8 m.cmd.but, .int .i8 m.cmd.dx, .int .i8 m.cmd.dy, .int .i64 m.cmd.tk, .int .u16 m.prov, .int .i64 m.id, .int .i64 m.shot, .int .i64 m.dir.x, .int .i64 m.dir.y, .int .i64 m.dir.z, .int .i64 m.why, .int .i64 m.pos.x, .int .i64 m.pos.y, .int .i64 m.pos.z, .int .i64 m.vel.x, .int .i64 m.vel.y, .int .i64 m.vel.z, .int .u32 m.tick, .int .u32 m.base, .slice p m.bytes.length cap] = va
  have hl : ((({ data := #[83, 67, 112, 73, 100, 115, 121, 86, 87, 84, 116, 66] } : ByteArray)[1]'(by decide)).toNat : Int) = 67 := rfl
  go_wp2_with fail
  go_loopw [13, 14] (fun th i wr => ∃ (j : Nat), i = .int .i64 (j : Int) ∧ j ≤ H.size ∧ th = .bool (anyH H 67 j) ∧ Below u4.heap.size u4 wr) (fun _ i _ => H.size - (intOf i).toNat)
  case atStart => exact ⟨0, rfl, Nat.zero_le _, rfl, Below.refl _ _⟩
  case round =>
    obtain ⟨j, rfl, hj, rfl, hb⟩ := hrel
    have HBJ := hid hb
    clear hb
    by_cases hlt : j < H.size
    · obtain ⟨bj, hbj⟩ : ∃ b, ((((H[j]'hlt).toNat : Nat) : Int) == 67) = b := ⟨_, rfl⟩
      have hnx : anyH H 67 (j + 1) = (anyH H 67 j || bj) := by rw [← hbj]; exact anyH_succ hlt
      have HNX := hid hnx
      clear hnx
      have i1 : (j : Int) < (H.size : Int) := by omega
      cases hth : anyH H 67 j
      · rw [hth] at HNX
        go_wp2_with fail
        refine region_held (fun u => Below wr.heap.size wr u) 11 rfl (by kernel_rfl) (below_drewN wr 1) ?_
        intro hHeld
        refine takeO 0 (some 136) (v := ?v1) rfl rfl (by kernel_rfl) (by kernel_rfl) (by kernel_rfl) (Or.inl ⟨by rfl, ?y1⟩) hHeld ?r1
        case y1 => (intro w' hSw; (try dsimp only at hSw); go_simp; try with_reducible rfl)
        try simp only [Act.put, List.setIfInBounds_toArray, List.set_cons_zero, List.set_cons_succ]
        refine takeO 1 (some 137) (v := ?v2) rfl rfl (by kernel_rfl) (by kernel_rfl) (by kernel_rfl) (Or.inl ⟨by rfl, ?y2⟩) hHeld ?r2
        case y2 => (intro w' hSw; (try dsimp only at hSw); go_simp; try with_reducible rfl)
        try simp only [Act.put, List.setIfInBounds_toArray, List.set_cons_zero, List.set_cons_succ]
        refine takeO 2 (some 138) (v := ?v3) rfl rfl (by kernel_rfl) (by kernel_rfl) (by kernel_rfl) (Or.inl ⟨by rfl, ?y3⟩) hHeld ?r3
        case y3 => (intro w' hSw; (try dsimp only at hSw); go_simp; try with_reducible rfl)
        try simp only [Act.put, List.setIfInBounds_toArray, List.set_cons_zero, List.set_cons_succ]
        refine takeO 3 (some 139) (v := ?v4) rfl rfl (by kernel_rfl) (by kernel_rfl) (by kernel_rfl) (Or.inl ⟨by rfl, ?y4⟩) hHeld ?r4
        case y4 => (intro w' hSw; (try dsimp only at hSw); go_simp; try with_reducible rfl)
        try simp only [Act.put, List.setIfInBounds_toArray, List.set_cons_zero, List.set_cons_succ]
        refine takeO 4 (some 140) (v := ?v5) rfl rfl (by kernel_rfl) (by kernel_rfl) (by kernel_rfl) (Or.inl ⟨by rfl, ?y5⟩) hHeld ?r5
        case y5 => (intro w' hSw; (try dsimp only at hSw); go_simp; try with_reducible rfl)
        try simp only [Act.put, List.setIfInBounds_toArray, List.set_cons_zero, List.set_cons_succ]
        refine takeO 5 (some 141) (v := ?v6) rfl rfl (by kernel_rfl) (by kernel_rfl) (by kernel_rfl) (Or.inl ⟨by rfl, ?y6⟩) hHeld ?r6
        case y6 => (intro w' hSw; (try dsimp only at hSw); go_simp; try with_reducible rfl)
        try simp only [Act.put, List.setIfInBounds_toArray, List.set_cons_zero, List.set_cons_succ]
        refine takeO 6 (some 142) (v := ?v7) rfl rfl (by kernel_rfl) (by kernel_rfl) (by kernel_rfl) (Or.inl ⟨by rfl, ?y7⟩) hHeld ?r7
        case y7 => (intro w' hSw; (try dsimp only at hSw); go_simp; try with_reducible rfl)
        try simp only [Act.put, List.setIfInBounds_toArray, List.set_cons_zero, List.set_cons_succ]
        refine takeO 7 (some 143) (v := ?v8) rfl rfl (by kernel_rfl) (by kernel_rfl) (by kernel_rfl) (Or.inl ⟨by rfl, ?y8⟩) hHeld ?r8
        case y8 => (intro w' hSw; (try dsimp only at hSw); go_simp; try with_reducible rfl)
        try simp only [Act.put, List.setIfInBounds_toArray, List.set_cons_zero, List.set_cons_succ]
        refine takeO 8 (some 144) (v := ?v9) rfl rfl (by kernel_rfl) (by kernel_rfl) (by kernel_rfl) (Or.inl ⟨by rfl, ?y9⟩) hHeld ?r9
        case y9 => (intro w' hSw; (try dsimp only at hSw); go_simp; try with_reducible rfl)
        try simp only [Act.put, List.setIfInBounds_toArray, List.set_cons_zero, List.set_cons_succ]
        refine takeO 9 (some 145) (v := ?v10) rfl rfl (by kernel_rfl) (by kernel_rfl) (by kernel_rfl) (Or.inl ⟨by rfl, ?y10⟩) hHeld ?r10
        case y10 => (intro w' hSw; (try dsimp only at hSw); go_simp; try with_reducible rfl)
        try simp only [Act.put, List.setIfInBounds_toArray, List.set_cons_zero, List.set_cons_succ]
        refine takeO 10 (some 13) (v := ?v11) rfl rfl (by kernel_rfl) (by kernel_rfl) (by kernel_rfl) (Or.inl ⟨by rfl, ?y11⟩) hHeld ?r11
        case y11 => (intro w' hSw; (try dsimp only at hSw); go_simp; try with_reducible rfl)
        try simp only [Act.put, List.setIfInBounds_toArray, List.set_cons_zero, List.set_cons_succ]
        refine wpAnyH_done (by kernel_rfl) (Only.on ?_) _
        clear hHeld
        go_wp2_with fail
        go_roundw
        case rel => exact ⟨j + 1, by go_num, hlt, by rw [HNX.out]; rfl, btrans HBJ.out (below_drewN wr 1)⟩
        case measure => simp [intOf]; omega
      · rw [hth] at HNX
        go_wp2_with fail
        refine region_held (fun u => Below wr.heap.size wr u) 11 rfl (by kernel_rfl) (below_drewN wr 1) ?_
        intro hHeld
        refine takeO 0 (some 136) (v := ?v12) rfl rfl (by kernel_rfl) (by kernel_rfl) (by kernel_rfl) (Or.inl ⟨by rfl, ?y12⟩) hHeld ?r12
        case y12 => (intro w' hSw; (try dsimp only at hSw); go_simp; try with_reducible rfl)
        try simp only [Act.put, List.setIfInBounds_toArray, List.set_cons_zero, List.set_cons_succ]
        refine takeO 1 (some 137) (v := ?v13) rfl rfl (by kernel_rfl) (by kernel_rfl) (by kernel_rfl) (Or.inl ⟨by rfl, ?y13⟩) hHeld ?r13
        case y13 => (intro w' hSw; (try dsimp only at hSw); go_simp; try with_reducible rfl)
        try simp only [Act.put, List.setIfInBounds_toArray, List.set_cons_zero, List.set_cons_succ]
        refine takeO 2 (some 138) rfl rfl (by kernel_rfl) (by kernel_rfl) (by kernel_rfl) (Or.inr ⟨by rfl, rfl⟩) hHeld ?_
        try simp only [Act.put, List.setIfInBounds_toArray, List.set_cons_zero, List.set_cons_succ]
        refine takeO 3 (some 139) rfl rfl (by kernel_rfl) (by kernel_rfl) (by kernel_rfl) (Or.inr ⟨by rfl, rfl⟩) hHeld ?_
        try simp only [Act.put, List.setIfInBounds_toArray, List.set_cons_zero, List.set_cons_succ]
        refine takeO 4 (some 140) rfl rfl (by kernel_rfl) (by kernel_rfl) (by kernel_rfl) (Or.inr ⟨by rfl, rfl⟩) hHeld ?_
        try simp only [Act.put, List.setIfInBounds_toArray, List.set_cons_zero, List.set_cons_succ]
        refine takeO 5 (some 141) rfl rfl (by kernel_rfl) (by kernel_rfl) (by kernel_rfl) (Or.inr ⟨by rfl, rfl⟩) hHeld ?_
        try simp only [Act.put, List.setIfInBounds_toArray, List.set_cons_zero, List.set_cons_succ]
        refine takeO 6 (some 142) rfl rfl (by kernel_rfl) (by kernel_rfl) (by kernel_rfl) (Or.inr ⟨by rfl, rfl⟩) hHeld ?_
        try simp only [Act.put, List.setIfInBounds_toArray, List.set_cons_zero, List.set_cons_succ]
        refine takeO 7 (some 143) rfl rfl (by kernel_rfl) (by kernel_rfl) (by kernel_rfl) (Or.inr ⟨by rfl, rfl⟩) hHeld ?_
        try simp only [Act.put, List.setIfInBounds_toArray, List.set_cons_zero, List.set_cons_succ]
        refine takeO 8 (some 144) rfl rfl (by kernel_rfl) (by kernel_rfl) (by kernel_rfl) (Or.inr ⟨by rfl, rfl⟩) hHeld ?_
        try simp only [Act.put, List.setIfInBounds_toArray, List.set_cons_zero, List.set_cons_succ]
        refine takeO 9 (some 145) (v := ?v14) rfl rfl (by kernel_rfl) (by kernel_rfl) (by kernel_rfl) (Or.inl ⟨by rfl, ?y14⟩) hHeld ?r14
        case y14 => (intro w' hSw; (try dsimp only at hSw); go_simp; try with_reducible rfl)
        try simp only [Act.put, List.setIfInBounds_toArray, List.set_cons_zero, List.set_cons_succ]
        refine takeO 10 (some 13) (v := ?v15) rfl rfl (by kernel_rfl) (by kernel_rfl) (by kernel_rfl) (Or.inl ⟨by rfl, ?y15⟩) hHeld ?r15
        case y15 => (intro w' hSw; (try dsimp only at hSw); go_simp; try with_reducible rfl)
        try simp only [Act.put, List.setIfInBounds_toArray, List.set_cons_zero, List.set_cons_succ]
        refine wpAnyH_done (by kernel_rfl) (Only.on ?_) _
        clear hHeld
        go_wp2_with fail
        go_roundw
        case rel => exact ⟨j + 1, by go_num, hlt, by rw [HNX.out]; rfl, btrans HBJ.out (below_drewN wr 1)⟩
        case measure => simp [intOf]; omega
    · have hjn : j = H.size := by omega
      subst hjn
      have i1 : ¬ (H.size : Int) < (H.size : Int) := by omega
      have HXR := hid (HX.out.below HBJ.out)
      have HBR := hid (btrans HB4.out HBJ.out)
      have hRX := HRX0.out
      rw [HANY.out]
      cases hT : (hasL k).contains 1
      · have HT := hid hT
        clear hT HX HB4 HBJ HRX0 HANY
        have hv : rgtB { m with cmd := { m.cmd with tk := n } } = mb := by rw [HRG.out]; rw [if_neg (by rw [HT.out]; decide)]; exact HMB.out
        rw [hv] at hRX
        have HRX := hid hRX
        clear hRX hv
        go_wp2_with (refine wpList_load_rowG (by rfl) 40 _ rfl N2 rfl 40 #[.int .i64 m.kind, .int .u16 m.seq, .int .u16 m.cmd.seq, .int .u8 m.cmd.but, .int .i8 m.cmd.dx, .int .i8 m.cmd.dy, .int .i64 n, .int .u16 m.prov, .int .i64 m.id, .int .i64 m.shot, .int .i64 m.dir.x, .int .i64 m.dir.y, .int .i64 m.dir.z, .int .i64 m.why, .int .i64 m.pos.x, .int .i64 m.pos.y, .int .i64 m.pos.z, .int .i64 m.vel.x, .int .i64 m.vel.y, .int .i64 m.vel.z, .int .u32 m.tick, .int .u32 m.base, .slice p m.bytes.length cap] (0, 0) _ HXR.out.obj Try.underlying40 rfl size_msg ?_)
        refine (HRX.out wr HBR.out).mono ?_
        rintro e u9 ⟨rfl, hb9⟩
        dsimp only
        have HB9 := hid (btrans HBR.out hb9)
        clear hb9 HRX
        go_wp2_with fail
        go_ret
        exact ⟨rfl, HB9.out⟩
      · have HT := hid hT
        clear hT HX HB4 HBJ HRX0 HANY
        by_cases g1 : 1 ≤ n
        · have j1 : decide (1 ≤ n) = true := by simp; omega
          by_cases g2 : n ≤ 8
          · have j2 : decide (n ≤ 8) = true := by simp; omega
            have hv : rgtB { m with cmd := { m.cmd with tk := n } } = true := by rw [HRG.out]; rw [if_pos HT.out]; exact decide_eq_true ⟨g1, g2⟩
            rw [hv] at hRX
            have HRX := hid hRX
            clear hRX hv
            go_wp2_with (refine wpList_load_rowG (by rfl) 40 _ rfl N2 rfl 40 #[.int .i64 m.kind, .int .u16 m.seq, .int .u16 m.cmd.seq, .int .u8 m.cmd.but, .int .i8 m.cmd.dx, .int .i8 m.cmd.dy, .int .i64 n, .int .u16 m.prov, .int .i64 m.id, .int .i64 m.shot, .int .i64 m.dir.x, .int .i64 m.dir.y, .int .i64 m.dir.z, .int .i64 m.why, .int .i64 m.pos.x, .int .i64 m.pos.y, .int .i64 m.pos.z, .int .i64 m.vel.x, .int .i64 m.vel.y, .int .i64 m.vel.z, .int .u32 m.tick, .int .u32 m.base, .slice p m.bytes.length cap] (0, 0) _ HXR.out.obj Try.underlying40 rfl size_msg ?_)
            refine (HRX.out wr HBR.out).mono ?_
            rintro e u9 ⟨rfl, hb9⟩
            dsimp only
            have HB9 := hid (btrans HBR.out hb9)
            clear hb9 HRX
            go_wp2_with fail
            go_ret
            exact ⟨rfl, HB9.out⟩
          · have j2 : decide (n ≤ 8) = false := by simp; omega
            have hv : rgtB { m with cmd := { m.cmd with tk := n } } = false := by rw [HRG.out]; rw [if_pos HT.out]; exact decide_eq_false (fun h => g2 h.2)
            rw [hv] at hRX
            have HRX := hid hRX
            clear hRX hv
            go_wp2_with (refine wpList_load_rowG (by rfl) 40 _ rfl N2 rfl 40 #[.int .i64 m.kind, .int .u16 m.seq, .int .u16 m.cmd.seq, .int .u8 m.cmd.but, .int .i8 m.cmd.dx, .int .i8 m.cmd.dy, .int .i64 n, .int .u16 m.prov, .int .i64 m.id, .int .i64 m.shot, .int .i64 m.dir.x, .int .i64 m.dir.y, .int .i64 m.dir.z, .int .i64 m.why, .int .i64 m.pos.x, .int .i64 m.pos.y, .int .i64 m.pos.z, .int .i64 m.vel.x, .int .i64 m.vel.y, .int .i64 m.vel.z, .int .u32 m.tick, .int .u32 m.base, .slice p m.bytes.length cap] (0, 0) _ HXR.out.obj Try.underlying40 rfl size_msg ?_)
            refine (HRX.out wr HBR.out).mono ?_
            rintro e u9 ⟨rfl, hb9⟩
            dsimp only
            have HB9 := hid (btrans HBR.out hb9)
            clear hb9 HRX
            go_wp2_with fail
            go_ret
            exact ⟨rfl, HB9.out⟩
        · have j1 : decide (1 ≤ n) = false := by simp; omega
          have hv : rgtB { m with cmd := { m.cmd with tk := n } } = false := by rw [HRG.out]; rw [if_pos HT.out]; exact decide_eq_false (fun h => g1 h.1)
          rw [hv] at hRX
          have HRX := hid hRX
          clear hRX hv
          go_wp2_with (refine wpList_load_rowG (by rfl) 40 _ rfl N2 rfl 40 #[.int .i64 m.kind, .int .u16 m.seq, .int .u16 m.cmd.seq, .int .u8 m.cmd.but, .int .i8 m.cmd.dx, .int .i8 m.cmd.dy, .int .i64 n, .int .u16 m.prov, .int .i64 m.id, .int .i64 m.shot, .int .i64 m.dir.x, .int .i64 m.dir.y, .int .i64 m.dir.z, .int .i64 m.why, .int .i64 m.pos.x, .int .i64 m.pos.y, .int .i64 m.pos.z, .int .i64 m.vel.x, .int .i64 m.vel.y, .int .i64 m.vel.z, .int .u32 m.tick, .int .u32 m.base, .slice p m.bytes.length cap] (0, 0) _ HXR.out.obj Try.underlying40 rfl size_msg ?_)
          refine (HRX.out wr HBR.out).mono ?_
          rintro e u9 ⟨rfl, hb9⟩
          dsimp only
          have HB9 := hid (btrans HBR.out hb9)
          clear hb9 HRX
          go_wp2_with fail
          go_ret
          exact ⟨rfl, HB9.out⟩
set_option maxRecDepth 100000 in
set_option maxHeartbeats 8000000 in
theorem fields_2 (m : Msg) (p : Option Addr) (cap : Nat) (field n : Int) (w : World) (hm : MOk m) (ha : Arg w p m.bytes.length cap fun i => .int .u8 ((m.bytes.getD i 0 : Nat) : Int)) (K16 : Nat) (hmask : bits .and .i64 field 65535 = (K16 : Int)) (hrem : Int.tmod (K16 : Int) 12 = 2) :
    Calls Try.prog 7 #[.agg (msgC m (.slice p m.bytes.length cap)), .int .i64 field, .int .i64 n] w fun e w' => e = .returned (.bool true) ∧ Below w.heap.size w w' := by
  have hA1 := Bq.new w 40 #[.int .i64 m.kind, .int .u16 m.seq, .int .u16 m.cmd.seq, .int .u8 m.cmd.but, .int .i8 m.cmd.dx, .int .i8 m.cmd.dy, .int .i64 m.cmd.tk, .int .u16 m.prov, .int .i64 m.id, .int .i64 m.shot, .int .i64 m.dir.x, .int .i64 m.dir.y, .int .i64 m.dir.z, .int .i64 m.why, .int .i64 m.pos.x, .int .i64 m.pos.y, .int .i64 m.pos.z, .int .i64 m.vel.x, .int .i64 m.vel.y, .int .i64 m.vel.z, .int .u32 m.tick, .int .u32 m.base, .slice p m.bytes.length cap]
  have hB0 := (Below.refl w.heap.size w).alloc (Nat.le_refl _) (.cells #[.int .i64 m.kind, .int .u16 m.seq, .int .u16 m.cmd.seq, .int .u8 m.cmd.but, .int .i8 m.cmd.dx, .int .i8 m.cmd.dy, .int .i64 m.cmd.tk, .int .u16 m.prov, .int .i64 m.id, .int .i64 m.shot, .int .i64 m.dir.x, .int .i64 m.dir.y, .int .i64 m.dir.z, .int .i64 m.why, .int .i64 m.pos.x, .int .i64 m.pos.y, .int .i64 m.pos.z, .int .i64 m.vel.x, .int .i64 m.vel.y, .int .i64 m.vel.z, .int .u32 m.tick, .int .u32 m.base, .slice p m.bytes.length cap] 40)
  have hsh := shownF (w.alloc (.cells #[.int .i64 m.kind, .int .u16 m.seq, .int .u16 m.cmd.seq, .int .u8 m.cmd.but, .int .i8 m.cmd.dx, .int .i8 m.cmd.dy, .int .i64 m.cmd.tk, .int .u16 m.prov, .int .i64 m.id, .int .i64 m.shot, .int .i64 m.dir.x, .int .i64 m.dir.y, .int .i64 m.dir.z, .int .i64 m.why, .int .i64 m.pos.x, .int .i64 m.pos.y, .int .i64 m.pos.z, .int .i64 m.vel.x, .int .i64 m.vel.y, .int .i64 m.vel.z, .int .u32 m.tick, .int .u32 m.base, .slice p m.bytes.length cap] 40))
  have hcm : msgC m (.slice p m.bytes.length cap) = #[.int .i64 m.kind, .int .u16 m.seq, .int .u16 m.cmd.seq, .int .u8 m.cmd.but, .int .i8 m.cmd.dx, .int .i8 m.cmd.dy, .int .i64 m.cmd.tk, .int .u16 m.prov, .int .i64 m.id, .int .i64 m.shot, .int .i64 m.dir.x, .int .i64 m.dir.y, .int .i64 m.dir.z, .int .i64 m.why, .int .i64 m.pos.x, .int .i64 m.pos.y, .int .i64 m.pos.z, .int .i64 m.vel.x, .int .i64 m.vel.y, .int .i64 m.vel.z, .int .u32 m.tick, .int .u32 m.base, .slice p m.bytes.length cap] := rfl
  have hR := fun (u : World) (hb : Below w.heap.size w u) => rightF m p cap u hm (ha.keep hb)
  rw [hcm] at hR ⊢
  obtain ⟨s, hs, hs0⟩ : ∃ s : Int, IntKind.u16.wrap n = s ∧ (0 ≤ s ∧ s ≤ 65535) := ⟨_, rfl, wrap16 n⟩
  obtain ⟨mb, hmb⟩ : ∃ b, (s == (0 : Int)) = b := ⟨_, rfl⟩
  have HMB := hid (show decide (s = 0) = mb by rw [← hmb]; exact (beq_dec s).symm)
  have HR := hid hR; have HA := hid hA1; have HB := hid hB0; have HM := hid hm; have HAR := hid ha
  clear hR hA1 hB0 hcm hm ha
  go_enter Try.func7, Try.ntmps7
  go_wp2_with fail
  refine hsh.mono ?_
  rintro e u1 ⟨rfl, hb1⟩
  dsimp only
  have HA1 := hid (HA.out.below hb1)
  have HB1 := hid (btrans HB.out hb1)
  clear hsh hb1 HA HB
  go_wp2_with (refine wpList_load_row rfl 40 _ rfl w.heap.size rfl 40 _ (0, 0) _ HA1.out.obj Try.underlying40 rfl size_msg ?_)
  refine (HR.out _ HB1.out).mono ?_
  rintro e u2 ⟨rfl, hb2⟩
  dsimp only
  have HB2 := hid (btrans HB1.out hb2)
  have HA2 := hid (HA1.out.below hb2)
  clear hb2 HR HA1 HB1
  cases hr : rgtB m
  · go_wp2_with fail
    go_ret
    exact ⟨rfl, HB2.out⟩
  obtain ⟨k, hk, hk9, ho, hf⟩ := rgt_parts HM.out ((rgtB_iff m).1 hr)
  obtain ⟨hXok, hrg⟩ := fl2 HM.out hk hk9 ho hf s hs0
  have HRG := hid hrg
  have hRX : ∀ u, Below w.heap.size w u → _ := fun (u : World) (hb : Below w.heap.size w u) => rightF { m with prov := s } p cap u hXok (HAR.out.keep hb)
  have hcX : msgC { m with prov := s } (.slice p ({ m with prov := s } : Msg).bytes.length cap) = #[.int .i64 m.kind, .int .u16 m.seq, .int .u16 m.cmd.seq, .int .u8 m.cmd.but, .int .i8 m.cmd.dx, .int .i8 m.cmd.dy, .int .i64 m.cmd.tk, .int .u16 s, .int .i64 m.id, .int .i64 m.shot, .int .i64 m.dir.x, .int .i64 m.dir.y, .int .i64 m.dir.z, .int .i64 m.why, .int .i64 m.pos.x, .int .i64 m.pos.y, .int .i64 m.pos.z, .int .i64 m.vel.x, .int .i64 m.vel.y, .int .i64 m.vel.z, .int .u32 m.tick, .int .u32 m.base, .slice p m.bytes.length cap] := rfl
  rw [hcX] at hRX
  have HRX0 := hid hRX
  have c0 : u2.cell? ⟨w.heap.size, 0, none⟩ = some (.int .i64 (k : Int)) := by rw [← hk]; exact HA2.out.cell (i := 0) rfl
  have hcell : (u2.alloc (.cells strRow 9)).cell? ⟨u2.heap.size, k, none⟩ = some (.string (strAt k)) := by rw [cell_of_row _ _ _ _ _ _ (heap_alloc_new u2 _)]; exact strRow_at (by omega)
  unfold strRow at hcell
  have hk10 : (k : Int) < 10 := by omega
  have HANY := hid (anyH_is hk9 (f := 2) (by decide) 112 rfl)
  have hHs := strAt_size hk9
  clear hr ho hf hk hk9 hRX hcX hXok hrg
  generalize strAt k = H at *
  have d1 := HA2.out.lt
  go_upto_region 7 with fail
  clear c0 hcell
  generalize hu3 : (u2.alloc (.cells #[.string { data := #[] }, .string { data := #[] }, .string { data := #[67] }, .string { data := #[112, 100, 115] }, .string { data := #[] }, .string { data := #[73] }, .string { data := #[83, 86, 87] }, .string { data := #[112, 73] }, .string { data := #[112, 121] }, .string { data := #[84, 116, 66] }] 9)) = u3
  have HA3 := hid (show Bq u3 w.heap.size 40 #[.int .i64 m.kind, .int .u16 m.seq, .int .u16 m.cmd.seq, .int .u8 m.cmd.but, .int .i8 m.cmd.dx, .int .i8 m.cmd.dy, .int .i64 m.cmd.tk, .int .u16 m.prov, .int .i64 m.id, .int .i64 m.shot, .int .i64 m.dir.x, .int .i64 m.dir.y, .int .i64 m.dir.z, .int .i64 m.why, .int .i64 m.pos.x, .int .i64 m.pos.y, .int .i64 m.pos.z, .int .i64 m.vel.x, .int .i64 m.vel.y, .int .i64 m.vel.z, .int .u32 m.tick, .int .u32 m.base, .slice p m.bytes.length cap] by rw [← hu3]; exact HA2.out.alloc _)
  have HB3 := hid (show Below w.heap.size w u3 by rw [← hu3]; exact HB2.out.alloc HB2.out.size _)
  clear hu3 d1 HA2 HB2
  go_upto_region 46 with (first
    | (refine wpList_load_row rfl 40 _ rfl w.heap.size rfl 40 _ (0, 0) _ HA3.out.obj Try.underlying40 rfl size_msg ?_)
    | (refine wpList_store_row rfl 40 _ _ rfl u3.heap.size #[.int .i64 m.kind, .int .u16 m.seq, .int .u16 m.cmd.seq, .int .u8 m.cmd.but, .int .i8 m.cmd.dx, .int .i8 m.cmd.dy, .int .i64 m.cmd.tk, .int .u16 m.prov, .int .i64 m.id, .int .i64 m.shot, .int .i64 m.dir.x, .int .i64 m.dir.y, .int .i64 m.dir.z, .int .i64 m.why, .int .i64 m.pos.x, .int .i64 m.pos.y, .int .i64 m.pos.z, .int .i64 m.vel.x, .int .i64 m.vel.y, .int .i64 m.vel.z, .int .u32 m.tick, .int .u32 m.base, .slice p m.bytes.length cap] rfl rfl 40 #[.int .i64 0, .int .u16 0, .int .u16 0, .int .u8 0, .int .i8 0, .int .i8 0, .int .i64 0, .int .u16 0, .int .i64 0, .int .i64 0, .int .i64 0, .int .i64 0, .int .i64 0, .int .i64 0, .int .i64 0, .int .i64 0, .int .i64 0, .int .i64 0, .int .i64 0, .int .i64 0, .int .u32 0, .int .u32 0, .slice none 0 0] (heap_alloc_new u3 _) size_msg rfl one23 ?_; rw [World.setRow_alloc_new]))
  generalize hu4 : (u3.alloc (.cells #[.int .i64 m.kind, .int .u16 m.seq, .int .u16 m.cmd.seq, .int .u8 m.cmd.but, .int .i8 m.cmd.dx, .int .i8 m.cmd.dy, .int .i64 m.cmd.tk, .int .u16 s, .int .i64 m.id, .int .i64 m.shot, .int .i64 m.dir.x, .int .i64 m.dir.y, .int .i64 m.dir.z, .int .i64 m.why, .int .i64 m.pos.x, .int .i64 m.pos.y, .int .i64 m.pos.z, .int .i64 m.vel.x, .int .i64 m.vel.y, .int .i64 m.vel.z, .int .u32 m.tick, .int .u32 m.base, .slice p m.bytes.length cap] 40)) = u4
  obtain ⟨N2, hN2⟩ : ∃ N2, u3.heap.size = N2 := ⟨_, rfl⟩
  have HX := hid (show Bq u4 N2 40 #[.int .i64 m.kind, .int .u16 m.seq, .int .u16 m.cmd.seq, .int .u8 m.cmd.but, .int .i8 m.cmd.dx, .int .i8 m.cmd.dy, .int .i64 m.cmd.tk, .int .u16 s, .int .i64 m.id, .int .i64 m.shot, .int .i64 m.dir.x, .int .i64 m.dir.y, .int .i64 m.dir.z, .int .i64 m.why, .int .i64 m.pos.x, .int .i64 m.pos.y, .int .i64 m.pos.z, .int .i64 m.vel.x, .int .i64 m.vel.y, .int .i64 m.vel.z, .int .u32 m.tick, .int .u32 m.base, .slice p m.bytes.length cap] by rw [← hu4, ← hN2]; exact Bq.new u3 _ _)
  have HB4 := hid (show Below w.heap.size w u4 by rw [← hu4]; exact HB3.out.alloc HB3.out.size _)
  rw [hN2]
  clear hu4 hN2 HA3 HB3
  generalize Value.agg #[.int .i64 m.kind, .int .u16 m.seq, .int .u16 m.cmd.seq, .int .u8 m.cmd.but, .int .i8 m.cmd.dx, .int .i8 m.cmd.dy, .int .i64 m.cmd.tk, .int .u16 m.prov, .int .i64 m.id, .int .i64 m.shot, .int .i64 m.dir.x, .int .i64 m.dir.y, .int .i64 m.dir.z, .int .i64 m.why, .int .i64 m.pos.x, .int .i64 m.pos.y, .int .i64 m.pos.z, .int .i64 m.vel.x, .int .i64 m.vel.y, .int .i64 m.vel.z, .int .u32 m.tick, .int .u32 m.base, .slice p m.bytes.length cap] = va
  have hl : ((({ data := #[83, 67, 112, 73, 100, 115, 121, 86, 87, 84, 116, 66] } : ByteArray)[2]'(by decide)).toNat : Int) = 112 := rfl
  go_wp2_with fail
  go_loopw [13, 14] (fun th i wr => ∃ (j : Nat), i = .int .i64 (j : Int) ∧ j ≤ H.size ∧ th = .bool (anyH H 112 j) ∧ Below u4.heap.size u4 wr) (fun _ i _ => H.size - (intOf i).toNat)
  case atStart => exact ⟨0, rfl, Nat.zero_le _, rfl, Below.refl _ _⟩
  case round =>
    obtain ⟨j, rfl, hj, rfl, hb⟩ := hrel
    have HBJ := hid hb
    clear hb
    by_cases hlt : j < H.size
    · obtain ⟨bj, hbj⟩ : ∃ b, ((((H[j]'hlt).toNat : Nat) : Int) == 112) = b := ⟨_, rfl⟩
      have hnx : anyH H 112 (j + 1) = (anyH H 112 j || bj) := by rw [← hbj]; exact anyH_succ hlt
      have HNX := hid hnx
      clear hnx
      have i1 : (j : Int) < (H.size : Int) := by omega
      cases hth : anyH H 112 j
      · rw [hth] at HNX
        go_wp2_with fail
        refine region_held (fun u => Below wr.heap.size wr u) 11 rfl (by kernel_rfl) (below_drewN wr 1) ?_
        intro hHeld
        refine takeO 0 (some 136) (v := ?v1) rfl rfl (by kernel_rfl) (by kernel_rfl) (by kernel_rfl) (Or.inl ⟨by rfl, ?y1⟩) hHeld ?r1
        case y1 => (intro w' hSw; (try dsimp only at hSw); go_simp; try with_reducible rfl)
        try simp only [Act.put, List.setIfInBounds_toArray, List.set_cons_zero, List.set_cons_succ]
        refine takeO 1 (some 137) (v := ?v2) rfl rfl (by kernel_rfl) (by kernel_rfl) (by kernel_rfl) (Or.inl ⟨by rfl, ?y2⟩) hHeld ?r2
        case y2 => (intro w' hSw; (try dsimp only at hSw); go_simp; try with_reducible rfl)
        try simp only [Act.put, List.setIfInBounds_toArray, List.set_cons_zero, List.set_cons_succ]
        refine takeO 2 (some 138) (v := ?v3) rfl rfl (by kernel_rfl) (by kernel_rfl) (by kernel_rfl) (Or.inl ⟨by rfl, ?y3⟩) hHeld ?r3
        case y3 => (intro w' hSw; (try dsimp only at hSw); go_simp; try with_reducible rfl)
        try simp only [Act.put, List.setIfInBounds_toArray, List.set_cons_zero, List.set_cons_succ]
        refine takeO 3 (some 139) (v := ?v4) rfl rfl (by kernel_rfl) (by kernel_rfl) (by kernel_rfl) (Or.inl ⟨by rfl, ?y4⟩) hHeld ?r4
        case y4 => (intro w' hSw; (try dsimp only at hSw); go_simp; try with_reducible rfl)
        try simp only [Act.put, List.setIfInBounds_toArray, List.set_cons_zero, List.set_cons_succ]
        refine takeO 4 (some 140) (v := ?v5) rfl rfl (by kernel_rfl) (by kernel_rfl) (by kernel_rfl) (Or.inl ⟨by rfl, ?y5⟩) hHeld ?r5
        case y5 => (intro w' hSw; (try dsimp only at hSw); go_simp; try with_reducible rfl)
        try simp only [Act.put, List.setIfInBounds_toArray, List.set_cons_zero, List.set_cons_succ]
        refine takeO 5 (some 141) (v := ?v6) rfl rfl (by kernel_rfl) (by kernel_rfl) (by kernel_rfl) (Or.inl ⟨by rfl, ?y6⟩) hHeld ?r6
        case y6 => (intro w' hSw; (try dsimp only at hSw); go_simp; try with_reducible rfl)
        try simp only [Act.put, List.setIfInBounds_toArray, List.set_cons_zero, List.set_cons_succ]
        refine takeO 6 (some 142) (v := ?v7) rfl rfl (by kernel_rfl) (by kernel_rfl) (by kernel_rfl) (Or.inl ⟨by rfl, ?y7⟩) hHeld ?r7
        case y7 => (intro w' hSw; (try dsimp only at hSw); go_simp; try with_reducible rfl)
        try simp only [Act.put, List.setIfInBounds_toArray, List.set_cons_zero, List.set_cons_succ]
        refine takeO 7 (some 143) (v := ?v8) rfl rfl (by kernel_rfl) (by kernel_rfl) (by kernel_rfl) (Or.inl ⟨by rfl, ?y8⟩) hHeld ?r8
        case y8 => (intro w' hSw; (try dsimp only at hSw); go_simp; try with_reducible rfl)
        try simp only [Act.put, List.setIfInBounds_toArray, List.set_cons_zero, List.set_cons_succ]
        refine takeO 8 (some 144) (v := ?v9) rfl rfl (by kernel_rfl) (by kernel_rfl) (by kernel_rfl) (Or.inl ⟨by rfl, ?y9⟩) hHeld ?r9
        case y9 => (intro w' hSw; (try dsimp only at hSw); go_simp; try with_reducible rfl)
        try simp only [Act.put, List.setIfInBounds_toArray, List.set_cons_zero, List.set_cons_succ]
        refine takeO 9 (some 145) (v := ?v10) rfl rfl (by kernel_rfl) (by kernel_rfl) (by kernel_rfl) (Or.inl ⟨by rfl, ?y10⟩) hHeld ?r10
        case y10 => (intro w' hSw; (try dsimp only at hSw); go_simp; try with_reducible rfl)
        try simp only [Act.put, List.setIfInBounds_toArray, List.set_cons_zero, List.set_cons_succ]
        refine takeO 10 (some 13) (v := ?v11) rfl rfl (by kernel_rfl) (by kernel_rfl) (by kernel_rfl) (Or.inl ⟨by rfl, ?y11⟩) hHeld ?r11
        case y11 => (intro w' hSw; (try dsimp only at hSw); go_simp; try with_reducible rfl)
        try simp only [Act.put, List.setIfInBounds_toArray, List.set_cons_zero, List.set_cons_succ]
        refine wpAnyH_done (by kernel_rfl) (Only.on ?_) _
        clear hHeld
        go_wp2_with fail
        go_roundw
        case rel => exact ⟨j + 1, by go_num, hlt, by rw [HNX.out]; rfl, btrans HBJ.out (below_drewN wr 1)⟩
        case measure => simp [intOf]; omega
      · rw [hth] at HNX
        go_wp2_with fail
        refine region_held (fun u => Below wr.heap.size wr u) 11 rfl (by kernel_rfl) (below_drewN wr 1) ?_
        intro hHeld
        refine takeO 0 (some 136) (v := ?v12) rfl rfl (by kernel_rfl) (by kernel_rfl) (by kernel_rfl) (Or.inl ⟨by rfl, ?y12⟩) hHeld ?r12
        case y12 => (intro w' hSw; (try dsimp only at hSw); go_simp; try with_reducible rfl)
        try simp only [Act.put, List.setIfInBounds_toArray, List.set_cons_zero, List.set_cons_succ]
        refine takeO 1 (some 137) (v := ?v13) rfl rfl (by kernel_rfl) (by kernel_rfl) (by kernel_rfl) (Or.inl ⟨by rfl, ?y13⟩) hHeld ?r13
        case y13 => (intro w' hSw; (try dsimp only at hSw); go_simp; try with_reducible rfl)
        try simp only [Act.put, List.setIfInBounds_toArray, List.set_cons_zero, List.set_cons_succ]
        refine takeO 2 (some 138) rfl rfl (by kernel_rfl) (by kernel_rfl) (by kernel_rfl) (Or.inr ⟨by rfl, rfl⟩) hHeld ?_
        try simp only [Act.put, List.setIfInBounds_toArray, List.set_cons_zero, List.set_cons_succ]
        refine takeO 3 (some 139) rfl rfl (by kernel_rfl) (by kernel_rfl) (by kernel_rfl) (Or.inr ⟨by rfl, rfl⟩) hHeld ?_
        try simp only [Act.put, List.setIfInBounds_toArray, List.set_cons_zero, List.set_cons_succ]
        refine takeO 4 (some 140) rfl rfl (by kernel_rfl) (by kernel_rfl) (by kernel_rfl) (Or.inr ⟨by rfl, rfl⟩) hHeld ?_
        try simp only [Act.put, List.setIfInBounds_toArray, List.set_cons_zero, List.set_cons_succ]
        refine takeO 5 (some 141) rfl rfl (by kernel_rfl) (by kernel_rfl) (by kernel_rfl) (Or.inr ⟨by rfl, rfl⟩) hHeld ?_
        try simp only [Act.put, List.setIfInBounds_toArray, List.set_cons_zero, List.set_cons_succ]
        refine takeO 6 (some 142) rfl rfl (by kernel_rfl) (by kernel_rfl) (by kernel_rfl) (Or.inr ⟨by rfl, rfl⟩) hHeld ?_
        try simp only [Act.put, List.setIfInBounds_toArray, List.set_cons_zero, List.set_cons_succ]
        refine takeO 7 (some 143) rfl rfl (by kernel_rfl) (by kernel_rfl) (by kernel_rfl) (Or.inr ⟨by rfl, rfl⟩) hHeld ?_
        try simp only [Act.put, List.setIfInBounds_toArray, List.set_cons_zero, List.set_cons_succ]
        refine takeO 8 (some 144) rfl rfl (by kernel_rfl) (by kernel_rfl) (by kernel_rfl) (Or.inr ⟨by rfl, rfl⟩) hHeld ?_
        try simp only [Act.put, List.setIfInBounds_toArray, List.set_cons_zero, List.set_cons_succ]
        refine takeO 9 (some 145) (v := ?v14) rfl rfl (by kernel_rfl) (by kernel_rfl) (by kernel_rfl) (Or.inl ⟨by rfl, ?y14⟩) hHeld ?r14
        case y14 => (intro w' hSw; (try dsimp only at hSw); go_simp; try with_reducible rfl)
        try simp only [Act.put, List.setIfInBounds_toArray, List.set_cons_zero, List.set_cons_succ]
        refine takeO 10 (some 13) (v := ?v15) rfl rfl (by kernel_rfl) (by kernel_rfl) (by kernel_rfl) (Or.inl ⟨by rfl, ?y15⟩) hHeld ?r15
        case y15 => (intro w' hSw; (try dsimp only at hSw); go_simp; try with_reducible rfl)
        try simp only [Act.put, List.setIfInBounds_toArray, List.set_cons_zero, List.set_cons_succ]
        refine wpAnyH_done (by kernel_rfl) (Only.on ?_) _
        clear hHeld
        go_wp2_with fail
        go_roundw
        case rel => exact ⟨j + 1, by go_num, hlt, by rw [HNX.out]; rfl, btrans HBJ.out (below_drewN wr 1)⟩
        case measure => simp [intOf]; omega
    · have hjn : j = H.size := by omega
      subst hjn
      have i1 : ¬ (H.size : Int) < (H.size : Int) := by omega
      have HXR := hid (HX.out.below HBJ.out)
      have HBR := hid (btrans HB4.out HBJ.out)
      have hRX := HRX0.out
      rw [HANY.out]
      cases hT : (hasL k).contains 2
      · have HT := hid hT
        clear hT HX HB4 HBJ HRX0 HANY
        have hv : rgtB { m with prov := s } = mb := by rw [HRG.out]; rw [if_neg (by rw [HT.out]; decide)]; exact HMB.out
        rw [hv] at hRX
        have HRX := hid hRX
        clear hRX hv
        go_wp2_with (refine wpList_load_rowG (by rfl) 40 _ rfl N2 rfl 40 #[.int .i64 m.kind, .int .u16 m.seq, .int .u16 m.cmd.seq, .int .u8 m.cmd.but, .int .i8 m.cmd.dx, .int .i8 m.cmd.dy, .int .i64 m.cmd.tk, .int .u16 s, .int .i64 m.id, .int .i64 m.shot, .int .i64 m.dir.x, .int .i64 m.dir.y, .int .i64 m.dir.z, .int .i64 m.why, .int .i64 m.pos.x, .int .i64 m.pos.y, .int .i64 m.pos.z, .int .i64 m.vel.x, .int .i64 m.vel.y, .int .i64 m.vel.z, .int .u32 m.tick, .int .u32 m.base, .slice p m.bytes.length cap] (0, 0) _ HXR.out.obj Try.underlying40 rfl size_msg ?_)
        refine (HRX.out wr HBR.out).mono ?_
        rintro e u9 ⟨rfl, hb9⟩
        dsimp only
        have HB9 := hid (btrans HBR.out hb9)
        clear hb9 HRX
        go_wp2_with fail
        go_ret
        exact ⟨rfl, HB9.out⟩
      · have HT := hid hT
        clear hT HX HB4 HBJ HRX0 HANY
        have hv : rgtB { m with prov := s } = true := by rw [HRG.out]; rw [if_pos HT.out]
        rw [hv] at hRX
        have HRX := hid hRX
        clear hRX hv
        go_wp2_with (refine wpList_load_rowG (by rfl) 40 _ rfl N2 rfl 40 #[.int .i64 m.kind, .int .u16 m.seq, .int .u16 m.cmd.seq, .int .u8 m.cmd.but, .int .i8 m.cmd.dx, .int .i8 m.cmd.dy, .int .i64 m.cmd.tk, .int .u16 s, .int .i64 m.id, .int .i64 m.shot, .int .i64 m.dir.x, .int .i64 m.dir.y, .int .i64 m.dir.z, .int .i64 m.why, .int .i64 m.pos.x, .int .i64 m.pos.y, .int .i64 m.pos.z, .int .i64 m.vel.x, .int .i64 m.vel.y, .int .i64 m.vel.z, .int .u32 m.tick, .int .u32 m.base, .slice p m.bytes.length cap] (0, 0) _ HXR.out.obj Try.underlying40 rfl size_msg ?_)
        refine (HRX.out wr HBR.out).mono ?_
        rintro e u9 ⟨rfl, hb9⟩
        dsimp only
        have HB9 := hid (btrans HBR.out hb9)
        clear hb9 HRX
        go_wp2_with fail
        go_ret
        exact ⟨rfl, HB9.out⟩
end Go.Proofs.Ytnflpgbmhllnaaa
