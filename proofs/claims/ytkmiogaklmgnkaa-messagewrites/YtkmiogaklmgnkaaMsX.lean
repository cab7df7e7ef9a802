/- Layer 5 (message): bytes cut off; the first byte; the law MessageSizes. -/
import Derived.Test.YtkmiogaklmgnkaaMsW
namespace Go.Proofs.Ytkmiogaklmgnkaa
open Go.RowKit Go.Shelf
set_option linter.unusedVariables false
set_option linter.unusedSimpArgs false
attribute [local go_sem ↓] Go.wp_at_zero Go.wp_at_succ

def cutM (k : Nat) (m : Msg) : Msg := { m with bytes := m.bytes.take k }
theorem Arg.cut {w : World} {p : Option Addr} {cap : Nat} {ys : List Nat} (h : Arg w p ys.length cap fun i => .int .u8 ((ys.getD i 0 : Nat) : Int)) (k : Nat) : Arg w p (ys.take k).length cap fun i => .int .u8 (((ys.take k).getD i 0 : Nat) : Int) := by
  have hl : (ys.take k).length ≤ ys.length := by rw [List.length_take]; omega
  refine ⟨Nat.le_trans hl h.le, h.most, ?_⟩
  rcases h.cells with h0 | ⟨b, o, hp, hlt, hc⟩
  · exact .inl (by omega)
  · refine .inr ⟨b, o, hp, hlt, fun i hi => ?_⟩
    rw [hc i (by omega)]
    have e : (ys.take k).getD i 0 = ys.getD i 0 := by
      rw [List.getD_eq_getElem?_getD, List.getD_eq_getElem?_getD, List.getElem?_take_of_lt (by rw [List.length_take] at hi; omega)]
    rw [e]
theorem cutM_ok {m : Msg} (h : MOk m) (k : Nat) : MOk (cutM k m) := ⟨h.seq, h.cseq, h.but, h.dx, h.dy, h.prov, h.tick, h.base, fun y hy => h.byte y (List.mem_of_mem_take hy)⟩
theorem cutM_len (m : Msg) (k : Nat) : (cutM k m).bytes.length = min k m.bytes.length := by unfold cutM; simp
/-- The first byte tells of how many there are. -/
theorem first_byte {ys : List Nat} {f n : Nat} {bs : List Bool} (hn : n < 32) (h : Packs ys f (bitsN (n : Nat) rCnt ++ bs)) : ∃ y zs, ys = y :: zs ∧ y < 256 ∧ y / 8 = n := by
  have hl := h.len
  have hfew := h.few
  rw [List.length_append, bitsN_length] at hl
  cases ys with
  | nil => simp at hl; omega
  | cons y zs =>
    have hy := h.byte y (by simp)
    refine ⟨y, zs, rfl, hy, ?_⟩
    have h1 := congrArg (List.take 5) h.bits
    have h2 : (unpack (y :: zs)).take 5 = low (y >>> 3) 5 := by
      rw [show unpack (y :: zs) = low y 8 ++ unpack zs from rfl, low_append y 5 3, List.append_assoc, List.take_left' (low_length _ _)]
    have h3 : (bitsN (n : Nat) rCnt ++ bs ++ List.replicate f false).take 5 = low n 5 := by
      rw [List.append_assoc, List.take_left' (show (bitsN (n : Nat) rCnt).length = 5 from bitsN_length _ _)]
      unfold bitsN
      have e : (((n : Nat) : Int) % 2 ^ 64).toNat = n := by omega
      rw [e]
    rw [h2, h3] at h1
    have h4 := congrArg val h1
    rw [val_low, val_low, Nat.mod_eq_of_lt (by omega : n < 2 ^ 5)] at h4
    have h5 : y >>> 3 = y / 8 := by rw [Nat.shiftRight_eq_div_pow]
    rw [h5, Nat.mod_eq_of_lt (by omega)] at h4
    exact h4
theorem rgt_kind {m : Msg} (h : Rgt m) : ∃ k : Nat, m.kind = (k : Int) ∧ 1 ≤ k ∧ k ≤ 9 := by
  have h1 : rKind.has m.kind := h.1.1.1
  obtain ⟨a, b⟩ := h1
  have a' : 1 ≤ m.kind := a
  have b' : m.kind ≤ 9 := b
  exact ⟨m.kind.toNat, by omega, by omega, by omega⟩
/-- The table of the law. -/
def sizeRow (L : Nat) : Array Value := #[.int .i64 0, .int .i64 0, .int .i64 37, .int .i64 71, .int .i64 0, .int .i64 31, .int .i64 208, .int .i64 47, .int .i64 20, .int .i64 ((74 + 8 * L : Nat) : Int)]
theorem sizeRow_at {m : Msg} {k : Nat} (hk : m.kind = (k : Int)) (h1 : 1 ≤ k) (h9 : k ≤ 9) : (sizeRow m.bytes.length)[k]? = some (.int .i64 ((sizeK m : Nat) : Int)) := by
  have h : k = 1 ∨ k = 2 ∨ k = 3 ∨ k = 4 ∨ k = 5 ∨ k = 6 ∨ k = 7 ∨ k = 8 ∨ k = 9 := by omega
  unfold sizeK
  rw [hk]
  rcases h with rfl | rfl | rfl | rfl | rfl | rfl | rfl | rfl | rfl <;> rfl
theorem sizeK_le2 (m : Msg) : sizeK m ≤ 208 + 8 * m.bytes.length := by
  unfold sizeK
  repeat' split
  all_goals omega
theorem encE_one {m : Msg} (hr : rgtB m = true) (hl : m.bytes.length ≤ 900) : encE [m] = 0 := by
  have h := sizeK_le2 m
  unfold encE
  rw [if_pos (by simp [hr]), if_pos (by simp), if_pos]
  unfold encJ
  simp only [List.take_length, List.flatMap_cons, List.flatMap_nil, List.append_nil, List.length_append, bitsN_length, carr_enc]
  show 5 + (4 + sizeK m) ≤ 8192
  omega
theorem encJ_one (m : Msg) : encJ [m] ([m] : List Msg).length = bitsN ((1 : Nat) : Int) rCnt ++ (carr m).enc := by
  unfold encJ; simp
set_option maxRecDepth 100000 in
set_option maxHeartbeats 4000000 in
theorem messageSizes_walk (m : Msg) (p : Option Addr) (cap : Nat) (w : World) (hm : MOk m) (ha : Arg w p m.bytes.length cap fun i => .int .u8 ((m.bytes.getD i 0 : Nat) : Int)) :
    Calls Try.prog 10 #[.agg (msgC m (.slice p m.bytes.length cap))] w fun e w' => e = .returned (.bool true) ∧ Below w.heap.size w w' := by
  have hle := ha.le; have hmost := ha.most
  unfold maxLen at hmost
  obtain ⟨m', hm'⟩ : ∃ m', cutM 900 m = m' := ⟨_, rfl⟩
  have hlm : m'.bytes.length = min 900 m.bytes.length := by rw [← hm', cutM_len]
  have hok' : MOk m' := by rw [← hm']; exact cutM_ok hm 900
  have ha' : Arg w p m'.bytes.length cap fun i => .int .u8 ((m'.bytes.getD i 0 : Nat) : Int) := by rw [← hm']; exact ha.cut 900
  have hC : ∀ v, msgC m' v = (msgC m v) := fun v => by rw [← hm']; rfl
  have hkind : m'.kind = m.kind := by rw [← hm']; rfl
  have hR := fun (u : World) (hb : Below w.heap.size w u) => rightF m' p cap u hok' (ha'.keep hb)
  have hEn : ∀ (u : World) (N : Nat), u.heap.size = N → Below w.heap.size w u → Calls Try.prog 14 #[.slice (some ⟨N, 0, none⟩) 1 1] (u.alloc (.cells (msgC m' (.slice p m'.bytes.length cap)) 40)) fun e w' => EncP (u.alloc (.cells (msgC m' (.slice p m'.bytes.length cap)) 40)) (encJ [m'] ([m'] : List Msg).length) (encE [m']) e w' := fun u N hN hb => by subst hN; exact encodeF (some ⟨u.heap.size, 0, none⟩) 1 [m'] (fun _ => (p, cap)) _ (argM_one hok' (ha'.keep hb))
  simp only [hC] at hR hEn
  obtain ⟨M, hM⟩ : ∃ M, m'.bytes.length = M := ⟨_, rfl⟩
  have hcase : ((900 : Int) < (m.bytes.length : Int) ∧ M = 900) ∨ ((m.bytes.length : Int) ≤ 900 ∧ m.bytes.length = M) := by omega
  have hM9 : M ≤ 900 := by omega
  have hA1 := Bq.new w 40 #[.int .i64 m.kind, .int .u16 m.seq, .int .u16 m.cmd.seq, .int .u8 m.cmd.but, .int .i8 m.cmd.dx, .int .i8 m.cmd.dy, .int .i64 m.cmd.tk, .int .u16 m.prov, .int .i64 m.id, .int .i64 m.shot, .int .i64 m.dir.x, .int .i64 m.dir.y, .int .i64 m.dir.z, .int .i64 m.why, .int .i64 m.pos.x, .int .i64 m.pos.y, .int .i64 m.pos.z, .int .i64 m.vel.x, .int .i64 m.vel.y, .int .i64 m.vel.z, .int .u32 m.tick, .int .u32 m.base, .slice p m.bytes.length cap]
  have hB0 := (Below.refl w.heap.size w).alloc (Nat.le_refl _) (.cells #[.int .i64 m.kind, .int .u16 m.seq, .int .u16 m.cmd.seq, .int .u8 m.cmd.but, .int .i8 m.cmd.dx, .int .i8 m.cmd.dy, .int .i64 m.cmd.tk, .int .u16 m.prov, .int .i64 m.id, .int .i64 m.shot, .int .i64 m.dir.x, .int .i64 m.dir.y, .int .i64 m.dir.z, .int .i64 m.why, .int .i64 m.pos.x, .int .i64 m.pos.y, .int .i64 m.pos.z, .int .i64 m.vel.x, .int .i64 m.vel.y, .int .i64 m.vel.z, .int .u32 m.tick, .int .u32 m.base, .slice p m.bytes.length cap] 40)
  have hsh := shownF (w.alloc (.cells #[.int .i64 m.kind, .int .u16 m.seq, .int .u16 m.cmd.seq, .int .u8 m.cmd.but, .int .i8 m.cmd.dx, .int .i8 m.cmd.dy, .int .i64 m.cmd.tk, .int .u16 m.prov, .int .i64 m.id, .int .i64 m.shot, .int .i64 m.dir.x, .int .i64 m.dir.y, .int .i64 m.dir.z, .int .i64 m.why, .int .i64 m.pos.x, .int .i64 m.pos.y, .int .i64 m.pos.z, .int .i64 m.vel.x, .int .i64 m.vel.y, .int .i64 m.vel.z, .int .u32 m.tick, .int .u32 m.base, .slice p m.bytes.length cap] 40))
  have hcm : ∀ v, msgC m v = #[.int .i64 m.kind, .int .u16 m.seq, .int .u16 m.cmd.seq, .int .u8 m.cmd.but, .int .i8 m.cmd.dx, .int .i8 m.cmd.dy, .int .i64 m.cmd.tk, .int .u16 m.prov, .int .i64 m.id, .int .i64 m.shot, .int .i64 m.dir.x, .int .i64 m.dir.y, .int .i64 m.dir.z, .int .i64 m.why, .int .i64 m.pos.x, .int .i64 m.pos.y, .int .i64 m.pos.z, .int .i64 m.vel.x, .int .i64 m.vel.y, .int .i64 m.vel.z, .int .u32 m.tick, .int .u32 m.base, v] := fun v => rfl
  simp only [hM, hcm] at hR hEn
  have HR := hid hR; have HEn := hid hEn; have HA := hid hA1; have HB := hid hB0; have HM := hid hM
  rw [hcm]
  clear hR hEn hA1 hB0 hcm hlm hC hm' hM ha' ha
  generalize m.bytes.length = L at *
  rcases hcase with ⟨k1, rfl⟩ | ⟨k1, rfl⟩
  · go_enter Try.func10, Try.ntmps10
    go_wp2_with fail
    refine hsh.mono ?_
    rintro e u1 ⟨rfl, hb1⟩
    dsimp only
    have A1 := HA.out.below hb1
    have c22 := A1.cell (i := 22) rfl
    have f22 := A1.thaw 22
    have HB1 := hid (btrans HB.out hb1)
    have A2 := A1.set 22 (.slice p 900 cap)
    simp only [List.setIfInBounds_toArray, List.set_cons_zero, List.set_cons_succ] at A2
    have HA2 := hid A2
    have HB2 := hid (HB1.out.setCell (p := ⟨w.heap.size, 22, none⟩) (Nat.le_refl _) (.slice p 900 cap))
    clear hsh hb1 A1 A2 HA HB
    go_wp2_with (refine wpList_load_row rfl 40 _ rfl w.heap.size rfl 40 _ (0, 0) _ HA2.out.obj Try.underlying40 rfl size_msg ?_)
    clear c22 f22
    refine (HR.out _ HB2.out).mono ?_
    rintro e u2 ⟨rfl, hb2⟩
    dsimp only
    have HB3 := hid (btrans HB2.out hb2)
    have HA3 := hid (HA2.out.below hb2)
    clear hb2 HR HA2 HB2 HB1
    cases hr : rgtB m'
    · go_wp2_with fail
      go_ret
      exact ⟨rfl, HB3.out⟩
    · have hg := (rgtB_iff m').1 hr
      obtain ⟨k, hk, hk1, hk9⟩ := rgt_kind hg
      have hsz := sizeRow_at hk hk1 hk9
      have hK2 : m.kind = (k : Int) := by rw [← hkind]; exact hk
      have c22 := HA3.out.cell (i := 22) rfl
      have c0 : u2.cell? ⟨w.heap.size, 0, none⟩ = some (.int .i64 (k : Int)) := by rw [← hK2]; exact HA3.out.cell (i := 0) rfl
      have d1 := HA3.out.lt
      rw [HM.out] at hsz
      have hcell : (u2.alloc (.cells (sizeRow 900) 3)).cell? ⟨u2.heap.size, k, none⟩ = some (.int .i64 ((sizeK m' : Nat) : Int)) := by rw [cell_of_row _ _ _ _ _ _ (heap_alloc_new u2 _)]; exact hsz
      unfold sizeRow at hcell
      first
        | (rw [show ((74 + 8 * 900 : Nat) : Int) = 7274 from rfl] at hcell)
        | (rw [show ((74 + 8 * 900 : Nat) : Int) = 74 + 8 * (900 : Int) by omega] at hcell)
      have HK := hid hK2; have HG := hid hg
      have hE0 := encE_one hr (by rw [HM.out]; exact hM9)
      have hZe := carr_enc m'
      have hEn := HEn.out
      rw [hE0, encJ_one] at hEn
      have HEn2 := hid hEn
      have hZ := sizeK_le2 m'
      rw [HM.out] at hZ
      clear hK2 hsz hk hg hr hkind hE0 HEn hEn
      generalize (carr m').enc = bsM at *
      generalize sizeK m' = Z at *
      go_wp2_with (refine wpList_load_row rfl 40 _ rfl w.heap.size rfl 40 _ (0, 0) _ (HA3.out.alloc _).obj Try.underlying40 rfl size_msg ?_)
      have hz2 := HB3.out.size
      refine (HEn2.out _ _ (by simp) (HB3.out.alloc HB3.out.size _)).mono ?_
      rintro e u3 ⟨⟨v, ys, rfl, hrow, hp, _⟩, hb3⟩
      dsimp only
      obtain ⟨f, hp⟩ := hp rfl
      obtain ⟨y, zs, rfl, hy, hy8⟩ := first_byte (by omega) hp
      have hpl := hp.len
      have hpf := hp.few
      rw [List.length_append, bitsN_length, hZe] at hpl
      obtain ⟨p3, c3, rfl, ha3⟩ := hrow.arg
      obtain ⟨b3, o3, rfl, hb3l, hc3⟩ := ha3.at (i := 0) (by simp)
      have k0 := hc3 0 (by simp)
      have hle3 := ha3.le; have hm3 := ha3.most
      unfold maxLen at hm3
      have HB4 := hid (Below.trans (HB3.out.alloc HB3.out.size _ |>.alloc (by simp; omega) _) (hb3.mono (by simp; omega)))
      simp only [List.getD_cons_zero, Nat.add_zero] at k0
      have hpl2 : 8 * (zs.length + 1) = 5 + (4 + Z) + f := by simpa using hpl
      simp only [List.length_cons] at hle3
      clear hrow hp hb3 ha3 hc3 HEn2 HB3 HA3 HG HK hpl
      have hq8 : ((y : Int) / 8 == 1) = true := by
        have : (y : Int) / 8 = 1 := by omega
        rw [this]; rfl
      go_wp2_with fail
      go_ret
      exact ⟨rfl, HB4.out⟩
  · go_enter Try.func10, Try.ntmps10
    go_wp2_with fail
    refine hsh.mono ?_
    rintro e u1 ⟨rfl, hb1⟩
    dsimp only
    have A1 := HA.out.below hb1
    have c22 := A1.cell (i := 22) rfl
    have f22 := A1.thaw 22
    have HB1 := hid (btrans HB.out hb1)
    have A2 := A1.set 22 (.slice p L cap)
    simp only [List.setIfInBounds_toArray, List.set_cons_zero, List.set_cons_succ] at A2
    have HA2 := hid A2
    have HB2 := hid (HB1.out.setCell (p := ⟨w.heap.size, 22, none⟩) (Nat.le_refl _) (.slice p L cap))
    clear hsh hb1 A1 A2 HA HB
    go_wp2_with (refine wpList_load_row rfl 40 _ rfl w.heap.size rfl 40 _ (0, 0) _ HA2.out.obj Try.underlying40 rfl size_msg ?_)
    clear c22 f22
    refine (HR.out _ HB2.out).mono ?_
    rintro e u2 ⟨rfl, hb2⟩
    dsimp only
    have HB3 := hid (btrans HB2.out hb2)
    have HA3 := hid (HA2.out.below hb2)
    clear hb2 HR HA2 HB2 HB1
    cases hr : rgtB m'
    · go_wp2_with fail
      go_ret
      exact ⟨rfl, HB3.out⟩
    · have hg := (rgtB_iff m').1 hr
      obtain ⟨k, hk, hk1, hk9⟩ := rgt_kind hg
      have hsz := sizeRow_at hk hk1 hk9
      have hK2 : m.kind = (k : Int) := by rw [← hkind]; exact hk
      have c22 := HA3.out.cell (i := 22) rfl
      have c0 : u2.cell? ⟨w.heap.size, 0, none⟩ = some (.int .i64 (k : Int)) := by rw [← hK2]; exact HA3.out.cell (i := 0) rfl
      have d1 := HA3.out.lt
      rw [HM.out] at hsz
      have hcell : (u2.alloc (.cells (sizeRow L) 3)).cell? ⟨u2.heap.size, k, none⟩ = some (.int .i64 ((sizeK m' : Nat) : Int)) := by rw [cell_of_row _ _ _ _ _ _ (heap_alloc_new u2 _)]; exact hsz
      unfold sizeRow at hcell
      first
        | (rw [show ((74 + 8 * L : Nat) : Int) = 7274 from rfl] at hcell)
        | (rw [show ((74 + 8 * L : Nat) : Int) = 74 + 8 * (L : Int) by omega] at hcell)
      have HK := hid hK2; have HG := hid hg
      have hE0 := encE_one hr (by rw [HM.out]; exact hM9)
      have hZe := carr_enc m'
      have hEn := HEn.out
      rw [hE0, encJ_one] at hEn
      have HEn2 := hid hEn
      have hZ := sizeK_le2 m'
      rw [HM.out] at hZ
      clear hK2 hsz hk hg hr hkind hE0 HEn hEn
      generalize (carr m').enc = bsM at *
      generalize sizeK m' = Z at *
      go_wp2_with (refine wpList_load_row rfl 40 _ rfl w.heap.size rfl 40 _ (0, 0) _ (HA3.out.alloc _).obj Try.underlying40 rfl size_msg ?_)
      have hz2 := HB3.out.size
      refine (HEn2.out _ _ (by simp) (HB3.out.alloc HB3.out.size _)).mono ?_
      rintro e u3 ⟨⟨v, ys, rfl, hrow, hp, _⟩, hb3⟩
      dsimp only
      obtain ⟨f, hp⟩ := hp rfl
      obtain ⟨y, zs, rfl, hy, hy8⟩ := first_byte (by omega) hp
      have hpl := hp.len
      have hpf := hp.few
      rw [List.length_append, bitsN_length, hZe] at hpl
      obtain ⟨p3, c3, rfl, ha3⟩ := hrow.arg
      obtain ⟨b3, o3, rfl, hb3l, hc3⟩ := ha3.at (i := 0) (by simp)
      have k0 := hc3 0 (by simp)
      have hle3 := ha3.le; have hm3 := ha3.most
      unfold maxLen at hm3
      have HB4 := hid (Below.trans (HB3.out.alloc HB3.out.size _ |>.alloc (by simp; omega) _) (hb3.mono (by simp; omega)))
      simp only [List.getD_cons_zero, Nat.add_zero] at k0
      have hpl2 : 8 * (zs.length + 1) = 5 + (4 + Z) + f := by simpa using hpl
      simp only [List.length_cons] at hle3
      clear hrow hp hb3 ha3 hc3 HEn2 HB3 HA3 HG HK hpl
      have hq8 : ((y : Int) / 8 == 1) = true := by
        have : (y : Int) / 8 = 1 := by omega
        rw [this]; rfl
      go_wp2_with fail
      go_ret
      exact ⟨rfl, HB4.out⟩
end Go.Proofs.Ytkmiogaklmgnkaa
