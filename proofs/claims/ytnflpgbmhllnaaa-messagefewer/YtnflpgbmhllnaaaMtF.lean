/- Layer 5 (message): the law MessageFewer. -/
import Derived.Test.YtnflpgbmhllnaaaMtG
import Derived.Deep.CutRange
namespace Go.Proofs.Ytnflpgbmhllnaaa
open Go.RowKit Go.Shelf
set_option linter.unusedVariables false
set_option linter.unusedSimpArgs false
attribute [local go_sem ↓] Go.wp_at_zero Go.wp_at_succ

theorem step_append_run {P : Program} {w : World} {ops : Array Oper} {o : Oper} {a : Act} {K : Act → World → Prop} {Q : Exit → Act → World → Prop} {E : Prop} (hgd : o.guard = none) (s x : Operand) (t tn : TypeId)
    (ho : o.op = .call { callee := .builtin .append, args := #[s, x], argTypes := #[t, tn] }) (vs vx : Value) (hs : a.eval s = vs) (hx : a.eval x = vx)
    (v' : Value) (w' : World) (hr : (Builtin.append_ #[t, tn] o.type #[vs, vx]).run P w = .ok v' w') (h : K (a.put o.dst v') w') : if Region.wanted o (yielded ops a.tmps) = true then Oper.wp P o a w K Q else E := by
  have hw : Region.wanted o (yielded ops a.tmps) = true := by simp [Region.wanted, hgd]
  rw [if_pos hw]
  exact Lib.wp_append_run w s x t tn ho vs vx hs hx v' w' hr h
theorem fold23 (m : Msg) (v : Value) (cs : Array Value) (hcs : #[.int .i64 m.kind, .int .u16 m.seq, .int .u16 m.cmd.seq, .int .u8 m.cmd.but, .int .i8 m.cmd.dx, .int .i8 m.cmd.dy, .int .i64 m.cmd.tk, .int .u16 m.prov, .int .i64 m.id, .int .i64 m.shot, .int .i64 m.dir.x, .int .i64 m.dir.y, .int .i64 m.dir.z, .int .i64 m.why, .int .i64 m.pos.x, .int .i64 m.pos.y, .int .i64 m.pos.z, .int .i64 m.vel.x, .int .i64 m.vel.y, .int .i64 m.vel.z, .int .u32 m.tick, .int .u32 m.base, v] = cs) : Array.foldl (fun (cs : Array Value) (x : Value × Nat) => cs.setIfInBounds x.snd x.fst) #[.int .i64 0, .int .u16 0, .int .u16 0, .int .u8 0, .int .i8 0, .int .i8 0, .int .i64 0, .int .u16 0, .int .i64 0, .int .i64 0, .int .i64 0, .int .i64 0, .int .i64 0, .int .i64 0, .int .i64 0, .int .i64 0, .int .i64 0, .int .i64 0, .int .i64 0, .int .i64 0, .int .u32 0, .int .u32 0, .slice none 0 0] cs.zipIdx 0 23 = cs := by
  rw [← hcs]
  simp [List.zipIdx]
/-- What the last Encode leaves. -/
def RelF (gs : List Msg) (u5 : World) (x y : Value) (W : World) : Prop := ∃ pY cY n, x = .slice pY n cY ∧ y = .int .i64 (encE gs) ∧ (encE gs = 0 → n = (bl gs + 7) / 8) ∧ Below u5.heap.size u5 W
theorem relF_mk {gs : List Msg} {u5 W : World} {ws : List Nat} (pY : Option Addr) (cY : Nat) (hp : encE gs = 0 → ∃ f, Packs ws f (encJ gs gs.length)) (hb : Below u5.heap.size u5 W) : RelF gs u5 (.slice pY ws.length cY) (.int .i64 (encE gs)) W :=
  ⟨pY, cY, _, rfl, rfl, fun h => by obtain ⟨f, hf⟩ := hp h; exact packs_size hf, hb⟩
set_option maxRecDepth 100000 in
set_option maxHeartbeats 4000000 in
theorem messageFewer_walk (pl : Option Addr) (capl : Nat) (l : List Msg) (ql : Nat → Option Addr × Nat) (m : Msg) (p : Option Addr) (cap : Nat) (w : World) (h0 : ArgM w pl capl l ql) (hm : MOk m) (ha : Arg w p m.bytes.length cap fun i => .int .u8 ((m.bytes.getD i 0 : Nat) : Int)) :
    Calls Try.prog 9 #[.slice pl l.length capl, .agg (msgC m (.slice p m.bytes.length cap))] w fun e w' => e = .returned (.bool true) ∧ Below w.heap.size w w' := by
  have hle := ha.le; have hmost := ha.most
  unfold maxLen at hmost
  obtain ⟨m', hm'⟩ : ∃ m', cutM 1100 m = m' := ⟨_, rfl⟩
  have hlm : m'.bytes.length = min 1100 m.bytes.length := by rw [← hm', cutM_len]
  have hok' : MOk m' := by rw [← hm']; exact cutM_ok hm 1100
  have ha' : Arg w p m'.bytes.length cap fun i => .int .u8 ((m'.bytes.getD i 0 : Nat) : Int) := by rw [← hm']; exact ha.cut 1100
  have hC : ∀ v, msgC m' v = (msgC m v) := fun v => by rw [← hm']; rfl
  have hR := fun (u : World) (hb : Below w.heap.size w u) => rightF m' p cap u hok' (ha'.keep hb)
  have hEn : ∀ (u : World) (N : Nat), u.heap.size = N → Below w.heap.size w u → Calls Try.prog 14 #[.slice (some ⟨N, 0, none⟩) 1 1] (u.alloc (.cells (msgC m' (.slice p m'.bytes.length cap)) 40)) fun e w' => EncP (u.alloc (.cells (msgC m' (.slice p m'.bytes.length cap)) 40)) (encJ [m'] ([m'] : List Msg).length) (encE [m']) e w' := fun u N hN hb => by subst hN; exact encodeF (some ⟨u.heap.size, 0, none⟩) 1 [m'] (fun _ => (p, cap)) _ (argM_one hok' (ha'.keep hb))
  simp only [hC] at hR hEn
  obtain ⟨M, hM⟩ : ∃ M, m'.bytes.length = M := ⟨_, rfl⟩
  have hcase : ((1100 : Int) < (m.bytes.length : Int) ∧ M = 1100) ∨ ((m.bytes.length : Int) ≤ 1100 ∧ m.bytes.length = M) := by omega
  have hM9 : M ≤ 1100 := by omega
  have hA1 := Bq.new w 40 #[.int .i64 m.kind, .int .u16 m.seq, .int .u16 m.cmd.seq, .int .u8 m.cmd.but, .int .i8 m.cmd.dx, .int .i8 m.cmd.dy, .int .i64 m.cmd.tk, .int .u16 m.prov, .int .i64 m.id, .int .i64 m.shot, .int .i64 m.dir.x, .int .i64 m.dir.y, .int .i64 m.dir.z, .int .i64 m.why, .int .i64 m.pos.x, .int .i64 m.pos.y, .int .i64 m.pos.z, .int .i64 m.vel.x, .int .i64 m.vel.y, .int .i64 m.vel.z, .int .u32 m.tick, .int .u32 m.base, .slice p m.bytes.length cap]
  have hB0 := (Below.refl w.heap.size w).alloc (Nat.le_refl _) (.cells #[.int .i64 m.kind, .int .u16 m.seq, .int .u16 m.cmd.seq, .int .u8 m.cmd.but, .int .i8 m.cmd.dx, .int .i8 m.cmd.dy, .int .i64 m.cmd.tk, .int .u16 m.prov, .int .i64 m.id, .int .i64 m.shot, .int .i64 m.dir.x, .int .i64 m.dir.y, .int .i64 m.dir.z, .int .i64 m.why, .int .i64 m.pos.x, .int .i64 m.pos.y, .int .i64 m.pos.z, .int .i64 m.vel.x, .int .i64 m.vel.y, .int .i64 m.vel.z, .int .u32 m.tick, .int .u32 m.base, .slice p m.bytes.length cap] 40)
  have hsh := shownF (w.alloc (.cells #[.int .i64 m.kind, .int .u16 m.seq, .int .u16 m.cmd.seq, .int .u8 m.cmd.but, .int .i8 m.cmd.dx, .int .i8 m.cmd.dy, .int .i64 m.cmd.tk, .int .u16 m.prov, .int .i64 m.id, .int .i64 m.shot, .int .i64 m.dir.x, .int .i64 m.dir.y, .int .i64 m.dir.z, .int .i64 m.why, .int .i64 m.pos.x, .int .i64 m.pos.y, .int .i64 m.pos.z, .int .i64 m.vel.x, .int .i64 m.vel.y, .int .i64 m.vel.z, .int .u32 m.tick, .int .u32 m.base, .slice p m.bytes.length cap] 40))
  have hcm : ∀ v, msgC m v = #[.int .i64 m.kind, .int .u16 m.seq, .int .u16 m.cmd.seq, .int .u8 m.cmd.but, .int .i8 m.cmd.dx, .int .i8 m.cmd.dy, .int .i64 m.cmd.tk, .int .u16 m.prov, .int .i64 m.id, .int .i64 m.shot, .int .i64 m.dir.x, .int .i64 m.dir.y, .int .i64 m.dir.z, .int .i64 m.why, .int .i64 m.pos.x, .int .i64 m.pos.y, .int .i64 m.pos.z, .int .i64 m.vel.x, .int .i64 m.vel.y, .int .i64 m.vel.z, .int .u32 m.tick, .int .u32 m.base, v] := fun v => rfl
  have HAP := hid ha'
  simp only [hM, hcm] at hR hEn
  have HR := hid hR; have HEn := hid hEn; have HA := hid hA1; have HB := hid hB0; have HM := hid hM; have H0 := hid h0; have HC := hid hC; have HOK := hid hok'
  rw [hcm]
  clear hR hEn hA1 hB0 hcm hlm hC hm' hM ha' ha h0 hok'
  generalize m.bytes.length = LL at *
  rcases hcase with ⟨k1, rfl⟩ | ⟨k1, rfl⟩
  · go_enter Try.func9, Try.ntmps9
    go_wp2_with fail
    refine hsh.mono ?_
    rintro e u1 ⟨rfl, hb1⟩
    dsimp only
    have HA1 := hid (HA.out.below hb1)
    have HB1 := hid (btrans HB.out hb1)
    have hF := fewF2 pl capl l ql u1 (H0.out.keep HB1.out)
    clear hsh hb1 HA HB
    go_wp2_with fail
    refine hF.mono ?_
    rintro e u2 ⟨⟨p2, c2, rfl, hO2⟩, hb2⟩
    dsimp only
    have HB2 := hid (btrans HB1.out hb2)
    have hLat : ∃ q2, ∀ w'', Fr (fun k => k = w.heap.size) u2 w'' → Below w.heap.size w w'' → ArgM w'' p2 c2 (fewM l) q2 := ⟨_, fun w'' hf hb => by
      obtain ⟨p', c', hv, hA⟩ := few_arg hO2 hf (fun k hk => by have := HA1.out.lt; omega) H0.out hb
      cases hv; exact hA⟩
    obtain ⟨q2, hLat⟩ := hLat
    have hA2 := hLat u2 (Fr.refl _ _) HB2.out
    have LAT := hid hLat
    have HA2 := hid (HA1.out.below hb2)
    have HL2 := hid hA2
    have hEn := encodeF p2 c2 (fewM l) q2 u2 hA2
    clear hF hb2 HB1 hA2 hLat hO2 H0 HA1
    generalize fewM l = fs at *
    go_wp2_with fail
    refine hEn.mono ?_
    rintro e u3 ⟨⟨v3, ys, rfl, hrow3, hp3, hz3⟩, hb3⟩
    dsimp only
    have HB3 := hid (btrans HB2.out hb3)
    have HB23 := hid hb3
    have HA3 := hid (HA2.out.below hb3)
    have HL3 := hid (HL2.out.keep hb3)
    obtain ⟨p3, c3, rfl, ha3⟩ := hrow3.arg
    have hle3 := ha3.le; have hm3 := ha3.most
    unfold maxLen at hm3
    have HP3 := hid hp3
    clear hEn hb3 HB2 HA2 HL2 hp3 hz3 hrow3 ha3
    by_cases hE : encE fs = 0
    rotate_left
    · have hEb : (encE fs != 0) = true := by simp [hE]
      generalize encE fs = E at *
      clear HP3 HA3 HL3 hE HR HEn
      go_wp2_with fail
      go_ret
      exact ⟨rfl, HB3.out⟩
    obtain ⟨f3, hpk3⟩ := HP3.out hE
    have hys := packs_size hpk3
    have hbl3 := bl_zero hE
    have hfs16 : fs.length ≤ 16 := (encE_zero hE).2.1
    have hle2 := HL3.out.le; have hm2 := HL3.out.most
    unfold maxLen at hm2
    rw [hE]
    obtain ⟨n, hn⟩ : ∃ n, fs.length = n := ⟨_, rfl⟩
    obtain ⟨Y, hY⟩ : ∃ Y, ys.length = Y := ⟨_, rfl⟩
    have HN := hid hn; have HY := hid hY; have HE := hid hE
    rw [hn] at hle2 hfs16 ⊢
    rw [hY] at hys hle3 ⊢
    have hY1024 : Y ≤ 1024 := by omega
    have HYS := hid hys; have HBL := hid hbl3
    clear hpk3 HP3 hn hY hE hys hbl3
    go_wp2_with fail
    go_loopw [8, 9] (fun lv i wr => ∃ (j L : Nat), i = .int .i64 (j : Int) ∧ lv = .int .i64 (L : Int) ∧ j ≤ n + 1 ∧ L ≤ Y ∧ (j ≤ n → L ≤ (bl (fs.take j) + 7) / 8) ∧ Below u3.heap.size u3 wr) (fun _ i _ => n + 1 - (intOf i).toNat)
    case atStart => exact ⟨0, 0, rfl, rfl, by omega, by omega, fun _ => by omega, Below.refl _ _⟩
    case round =>
      obtain ⟨j, L, rfl, rfl, hj, hLY, hL, hb⟩ := hrel
      by_cases hlt : j ≤ n
      · have hlen : (fs.take j).length = j := by rw [List.length_take, HN.out]; omega
        have hEn := encodeF p2 c2 (fs.take j) q2 wr ((HL3.out.keep hb).take j)
        rw [encE_take HE.out j] at hEn
        obtain ⟨bits, hbits⟩ : ∃ bits, encJ (fs.take j) (fs.take j).length = bits := ⟨_, rfl⟩
        rw [hbits, hlen] at hEn
        have HBITS := hid hbits
        have HB4 := hid hb
        have hL' := hL hlt
        have HLL := hid hL'
        have i1 : (j : Int) ≤ (n : Int) := by omega
        have i2 : (j : Int) ≤ (c2 : Int) := by omega
        clear hbits hb hL hL' HR HEn
        go_wp2_with fail
        refine hEn.mono ?_
        rintro e u4 ⟨⟨v4, zs, rfl, hrow4, hp4, hz4⟩, hb4⟩
        dsimp only
        obtain ⟨f4, hpk4⟩ := hp4 rfl
        rw [← HBITS.out] at hpk4
        have hzs := packs_size hpk4
        have hful := bl_full fs j
        have hys := HYS.out
        have hL' := HLL.out
        have hnx : (bl (fs.take j) + 7) / 8 ≤ (bl (fs.take (j + 1)) + 7) / 8 := by have := bl_take fs (i := j) (j := j + 1) (by omega); omega
        obtain ⟨p4, c4, rfl, ha4⟩ := hrow4.arg
        obtain ⟨Z, hZ⟩ : ∃ Z, zs.length = Z := ⟨_, rfl⟩
        rw [hZ] at hzs ⊢
        have k1 : ¬ (Z : Int) < (L : Int) := by omega
        have k2 : ¬ (Y : Int) < (Z : Int) := by omega
        have k3 : Z ≤ Y := by omega
        have k4 : j + 1 ≤ n → Z ≤ (bl (fs.take (j + 1)) + 7) / 8 := fun _ => by omega
        have HB5 := hid (btrans HB4.out hb4)
        have HK4 := hid k4
        clear hEn hrow4 hp4 hz4 hb4 hpk4 hzs hful hys hL' hnx ha4 hZ k4 HLL hlen HBITS HB4
        go_wp2_with fail
        go_roundw
        case rel => exact ⟨j + 1, Z, by go_num, rfl, by omega, k3, HK4.out, HB5.out⟩
        case measure => simp [intOf]; omega
      · have hjn : j = n + 1 := by omega
        subst hjn
        have i1 : ¬ ((n + 1 : Nat) : Int) ≤ (n : Int) := by omega
        have A1 := HA3.out.below hb
        have c22 := A1.cell (i := 22) rfl
        have f22 := A1.thaw 22
        have HB4 := hid (btrans HB3.out hb)
        have HL4 := hid (HL3.out.keep hb)
        have A2 := A1.set 22 (.slice p 1100 cap)
        simp only [List.setIfInBounds_toArray, List.set_cons_zero, List.set_cons_succ] at A2
        have HA4 := hid A2
        have HB5 := hid (HB4.out.setCell (p := ⟨w.heap.size, 22, none⟩) (Nat.le_refl _) (.slice p 1100 cap))
        have hFr5 : Fr (fun k => k = w.heap.size) u2 (wr.setCell ⟨w.heap.size, 22, none⟩ (.slice p 1100 cap)) := (Fr.of_below (fun k => k = w.heap.size) (btrans HB23.out hb)).setCell (S := fun k => k = w.heap.size) (p := ⟨w.heap.size, 22, none⟩) (show (fun k => k = w.heap.size) w.heap.size from rfl) _
        have HL5 := hid (LAT.out _ hFr5 HB5.out)
        clear hL hb A1 A2 HA3 HB3 HL3 HL4 hFr5 LAT HB23
        go_wp2_with (refine wpList_load_row rfl 40 _ rfl w.heap.size rfl 40 _ (0, 0) _ HA4.out.obj Try.underlying40 rfl size_msg ?_)
        clear c22 f22
        refine (HR.out _ HB5.out).mono ?_
        rintro e u4 ⟨rfl, hb4⟩
        dsimp only
        have HB6 := hid (btrans HB5.out hb4)
        have HA5 := hid (HA4.out.below hb4)
        have HL6 := hid (HL5.out.keep hb4)
        clear hb4 HR HA4 HB5 HL5 HB4
        cases hr : rgtB m'
        · go_wp2_with fail
          go_ret
          exact ⟨rfl, HB6.out⟩
        have hEn := HEn.out u4 u4.heap.size rfl HB6.out
        have HRM := hid hr
        clear hr HEn
        go_wp2_with (refine wpList_load_row rfl 40 _ rfl w.heap.size rfl 40 _ (0, 0) _ HA5.out.obj Try.underlying40 rfl size_msg ?_)
        refine hEn.mono ?_
        rintro e u5 ⟨⟨v5, zs, rfl, hrow5, hp5, hz5⟩, hb5⟩
        dsimp only
        have hb45 := Below.trans ((Below.refl u4.heap.size u4).alloc (Nat.le_refl _) _) (hb5.mono (by simp))
        have HB7 := hid (btrans HB6.out hb45)
        have HA6 := HA5.out.below hb45
        have HL7 := HL6.out.keep hb45
        obtain ⟨p5, c5, rfl, ha5⟩ := hrow5.arg
        have hle5 := ha5.le; have hm5 := ha5.most
        unfold maxLen at hm5
        have HP5 := hid hp5; have HZ5 := hid hz5
        obtain ⟨Zl, hZl⟩ : ∃ Zl, zs.length = Zl := ⟨_, rfl⟩
        rw [hZl] at hle5 ⊢
        obtain ⟨F, hF⟩ : ∃ F, encE [m'] = F := ⟨_, rfl⟩
        rw [hF]
        have HF := hid hF; have HZL := hid hZl
        obtain ⟨u6, hu6⟩ : ∃ u6, u5.drew = u6 := ⟨_, rfl⟩
        have hbd : Below u5.heap.size u5 u6 := by rw [← hu6]; exact below_drewN u5 1
        have hA6 := HA6.below hbd
        have HL8 := hid (HL7.keep hbd)
        have HB8 := hid (btrans HB7.out hbd)
        have HAP6 := hid (HAP.out.keep HB8.out)
        obtain ⟨cs, hcs⟩ : ∃ cs : Array Value, #[.int .i64 m.kind, .int .u16 m.seq, .int .u16 m.cmd.seq, .int .u8 m.cmd.but, .int .i8 m.cmd.dx, .int .i8 m.cmd.dy, .int .i64 m.cmd.tk, .int .u16 m.prov, .int .i64 m.id, .int .i64 m.shot, .int .i64 m.dir.x, .int .i64 m.dir.y, .int .i64 m.dir.z, .int .i64 m.why, .int .i64 m.pos.x, .int .i64 m.pos.y, .int .i64 m.pos.z, .int .i64 m.vel.x, .int .i64 m.vel.y, .int .i64 m.vel.z, .int .u32 m.tick, .int .u32 m.base, .slice p 1100 cap] = cs := ⟨_, rfl⟩
        have hsz : cs.size = 23 := by rw [← hcs]; rfl
        have HFO := hid (fold23 m (.slice p 1100 cap) cs hcs)
        have hcs2 : msgC m' (.slice p m'.bytes.length cap) = cs := by rw [HC.out, HM.out, ← hcs]; rfl
        rw [hcs] at hA6
        have H6 := hid hA6
        obtain ⟨e0, he0⟩ : ∃ e0, (carr m').enc.length = e0 := ⟨_, rfl⟩
        obtain ⟨gs, hgs⟩ : ∃ gs, fs ++ [m'] = gs := ⟨_, rfl⟩
        have HALL := hid (show gs.all rgtB = true by rw [← hgs]; exact all_snoc (encE_zero HE.out).1 HRM.out)
        have HBG := hid (show bl gs = bl fs + e0 by rw [← hgs, bl_one, he0])
        have HGL := hid (show gs.length = n + 1 by rw [← hgs, List.length_append, List.length_singleton, HN.out])
        have hb1 : bl [m'] = 5 + e0 := by rw [bl_single, he0]
        have hbf : 5 ≤ bl fs := by unfold bl; omega
        have HF0 := hid (show bl fs + e0 ≤ 8192 → F = 0 from fun h => by rw [← HF.out]; exact encE_of (all_one HRM.out) (by simp) (by omega))
        have HF5 := hid (show F ≠ 0 → F = 5 from fun h => by rw [← HF.out] at h ⊢; exact (encE_five (all_one HRM.out) h).1)
        have HZ := hid (show F = 0 → Zl = (5 + e0 + 7) / 8 from fun h => by obtain ⟨f5, hpk⟩ := HP5.out (by rw [HF.out]; exact h); have := packs_size hpk; rw [hb1, HZL.out] at this; exact this)
        have hZ1024 : Zl ≤ 1024 := by
          by_cases h : F = 0
          · have h1 := HZ.out h; have h2 := bl_zero (HF.out.trans h); omega
          · have h1 := HZ5.out (by rw [HF.out]; exact h); have h2 := HZL.out; rw [h1] at h2; simp at h2; omega
        have hO1 := ord1 HL8.out HAP6.out HOK.out (by rw [HN.out]; exact hfs16)
        have hO2 := ord2 HL8.out HAP6.out HOK.out (by rw [HN.out]; exact hfs16)
        have hO3 := ord3 HL8.out HAP6.out HOK.out (by rw [HN.out]; exact hfs16)
        rw [hcs2, HN.out, hgs] at hO1 hO2 hO3
        have HO1 := hid hO1; have HO2 := hid hO2; have HO3 := hid hO3
        clear he0 hgs hb1 hbf hO1 hO2 hO3 HP5 HZ5
        clear hEn hb5 hrow5 hp5 hz5 hb45 ha5 HA5 HL6 HA6 HL7 hZl hF HB6 hcs hcs2 hA6
        go_upto_region 18 with fail
        generalize Value.agg #[.int .i64 m.kind, .int .u16 m.seq, .int .u16 m.cmd.seq, .int .u8 m.cmd.but, .int .i8 m.cmd.dx, .int .i8 m.cmd.dy, .int .i64 m.cmd.tk, .int .u16 m.prov, .int .i64 m.id, .int .i64 m.shot, .int .i64 m.dir.x, .int .i64 m.dir.y, .int .i64 m.dir.z, .int .i64 m.why, .int .i64 m.pos.x, .int .i64 m.pos.y, .int .i64 m.pos.z, .int .i64 m.vel.x, .int .i64 m.vel.y, .int .i64 m.vel.z, .int .u32 m.tick, .int .u32 m.base, .slice p LL cap] = va
        go_cut [14, 15] from 75 to 84 (fun x y W => RelF gs u5 x y W)
        case first =>
          refine region_held (fun u => u.heap[w.heap.size]? = some (.cells cs 40 (0, 0))) 12 rfl (by kernel_rfl) (by rw [hu6]; exact H6.out.obj) ?_
          rw [hu6]
          clear hu6
          intro hHeld
          refine takeO 1 (some 77) (v := ?v1) rfl rfl (by kernel_rfl) (by kernel_rfl) (by kernel_rfl) (Or.inl ⟨by rfl, ?y1⟩) hHeld ?r1
          case y1 => (intro w' hSw; (try dsimp only at hSw); go_simp; try with_reducible rfl)
          try simp only [Act.put, List.setIfInBounds_toArray, List.set_cons_zero, List.set_cons_succ]
          refine takeO 3 (some 79) rfl rfl (by kernel_rfl) (by kernel_rfl) (by kernel_rfl) (yields_row (by rfl) rfl rfl (fun w h => h) hsz) hHeld ?_
          try simp only [Act.put, List.setIfInBounds_toArray, List.set_cons_zero, List.set_cons_succ]
          refine wpAnyH_ready (rs := [0, 4]) (by kernel_rfl) (by simp) ?_
          refine AllReadyH.cons rfl (fun K hK => ?_) (AllReadyH.cons rfl (fun K hK => ?_) AllReadyH.nil)
          ·
            go_simp
            refine hK.out _ _ (H6.out.alloc _).obj (fun hHeld => ?_)
            clear hK K
            refine wpAnyH_ready (rs := [2, 4]) (by kernel_rfl) (by simp) ?_
            refine AllReadyH.cons rfl (fun K hK => ?_) (AllReadyH.cons rfl (fun K hK => ?_) AllReadyH.nil)
            · obtain ⟨v8, u8, vX, uX, r2, b8, rX, hF⟩ := HO1.out
              refine step_append_run (by rfl) _ _ 22 22 (by rfl) _ _ (by rfl) (by rfl) _ _ r2 ?_
              change K (Act.put _ (some 78) _) _
              simp only [Act.put, List.setIfInBounds_toArray, List.set_cons_zero, List.set_cons_succ]
              refine hK.out _ _ (H6.out.below b8).obj (fun hHeld => ?_)
              clear hK K r2
              refine wpAnyH_ready (rs := [4]) (by kernel_rfl) (by simp) ?_
              refine AllReadyH.cons rfl (fun K hK => ?_) AllReadyH.nil
              go_simp
              rw [HFO.out]
              refine hK.out _ _ ((H6.out.below b8).alloc _).obj (fun hHeld => ?_)
              clear hK K
              refine wpAnyH_ready (rs := [5]) (by kernel_rfl) (by simp) ?_
              refine AllReadyH.cons rfl (fun K hK => ?_) AllReadyH.nil
              refine step_append_run (by rfl) _ _ 22 22 (by rfl) _ _ (by rfl) (by rfl) _ _ rX ?_
              change K (Act.put _ (some 81) _) _
              simp only [Act.put, List.setIfInBounds_toArray, List.set_cons_zero, List.set_cons_succ]
              obtain ⟨px, cx, qx, rfl, hAX, hbX⟩ := hF
              clear rX
              refine hK.out _ _ (H6.out.below hbX).obj (fun hHeld => ?_)
              clear hK K
              refine wpAnyH_ready (rs := [6]) (by kernel_rfl) (by simp) ?_
              refine AllReadyH.cons rfl (fun K hK => ?_) AllReadyH.nil
              go_simp
              refine (encodeF px cx gs qx uX hAX).mono ?_
              rintro e uY ⟨⟨vY, ws, rfl, hrowY, hpY, hzY⟩, hbY⟩
              dsimp only
              obtain ⟨pY, cY, rfl, haY⟩ := hrowY.arg
              have hbZ := btrans hbX hbY
              have hREL := relF_mk (gs := gs) pY cY hpY (btrans hbd hbZ)
              refine hK.out _ _ (H6.out.below hbZ).obj (fun hHeld => ?_)
              clear hK K
              generalize ws.length = wl at *
              refine takeO 7 (some 75) (v := ?v2) rfl rfl (by kernel_rfl) (by kernel_rfl) (by kernel_rfl) (Or.inl ⟨by rfl, ?y2⟩) hHeld ?r2
              case y2 => (intro w' hSw; (try dsimp only at hSw); go_simp; try with_reducible rfl)
              try simp only [Act.put, List.setIfInBounds_toArray, List.set_cons_zero, List.set_cons_succ]
              refine takeO 8 (some 83) (v := ?v3) rfl rfl (by kernel_rfl) (by kernel_rfl) (by kernel_rfl) (Or.inl ⟨by rfl, ?y3⟩) hHeld ?r3
              case y3 => (intro w' hSw; (try dsimp only at hSw); go_simp; try with_reducible rfl)
              try simp only [Act.put, List.setIfInBounds_toArray, List.set_cons_zero, List.set_cons_succ]
              refine takeO 9 (some 84) (v := ?v4) rfl rfl (by kernel_rfl) (by kernel_rfl) (by kernel_rfl) (Or.inl ⟨by rfl, ?y4⟩) hHeld ?r4
              case y4 => (intro w' hSw; (try dsimp only at hSw); go_simp; try with_reducible rfl)
              try simp only [Act.put, List.setIfInBounds_toArray, List.set_cons_zero, List.set_cons_succ]
              refine takeO 10 (some 14) (v := ?v5) rfl rfl (by kernel_rfl) (by kernel_rfl) (by kernel_rfl) (Or.inl ⟨by rfl, ?y5⟩) hHeld ?r5
              case y5 => (intro w' hSw; (try dsimp only at hSw); go_simp; try with_reducible rfl)
              try simp only [Act.put, List.setIfInBounds_toArray, List.set_cons_zero, List.set_cons_succ]
              refine takeO 11 (some 15) (v := ?v6) rfl rfl (by kernel_rfl) (by kernel_rfl) (by kernel_rfl) (Or.inl ⟨by rfl, ?y6⟩) hHeld ?r6
              case y6 => (intro w' hSw; (try dsimp only at hSw); go_simp; try with_reducible rfl)
              try simp only [Act.put, List.setIfInBounds_toArray, List.set_cons_zero, List.set_cons_succ]
              refine wpAnyH_done (by kernel_rfl) (Only.on ?_) _
              try go_wp2_with fail
              go_meet
              exact hREL
            · obtain ⟨v8, u8, vX, uX, r2, b8, rX, hF⟩ := HO2.out
              go_simp
              rw [HFO.out]
              refine hK.out _ _ ((H6.out.alloc _).alloc _).obj (fun hHeld => ?_)
              clear hK K
              refine wpAnyH_ready (rs := [2]) (by kernel_rfl) (by simp) ?_
              refine AllReadyH.cons rfl (fun K hK => ?_) AllReadyH.nil
              refine step_append_run (by rfl) _ _ 22 22 (by rfl) _ _ (by rfl) (by rfl) _ _ r2 ?_
              change K (Act.put _ (some 78) _) _
              simp only [Act.put, List.setIfInBounds_toArray, List.set_cons_zero, List.set_cons_succ]
              refine hK.out _ _ (H6.out.below b8).obj (fun hHeld => ?_)
              clear hK K r2
              refine wpAnyH_ready (rs := [5]) (by kernel_rfl) (by simp) ?_
              refine AllReadyH.cons rfl (fun K hK => ?_) AllReadyH.nil
              refine step_append_run (by rfl) _ _ 22 22 (by rfl) _ _ (by rfl) (by rfl) _ _ rX ?_
              change K (Act.put _ (some 81) _) _
              simp only [Act.put, List.setIfInBounds_toArray, List.set_cons_zero, List.set_cons_succ]
              obtain ⟨px, cx, qx, rfl, hAX, hbX⟩ := hF
              clear rX
              refine hK.out _ _ (H6.out.below hbX).obj (fun hHeld => ?_)
              clear hK K
              refine wpAnyH_ready (rs := [6]) (by kernel_rfl) (by simp) ?_
              refine AllReadyH.cons rfl (fun K hK => ?_) AllReadyH.nil
              go_simp
              refine (encodeF px cx gs qx uX hAX).mono ?_
              rintro e uY ⟨⟨vY, ws, rfl, hrowY, hpY, hzY⟩, hbY⟩
              dsimp only
              obtain ⟨pY, cY, rfl, haY⟩ := hrowY.arg
              have hbZ := btrans hbX hbY
              have hREL := relF_mk (gs := gs) pY cY hpY (btrans hbd hbZ)
              refine hK.out _ _ (H6.out.below hbZ).obj (fun hHeld => ?_)
              clear hK K
              generalize ws.length = wl at *
              refine takeO 7 (some 75) (v := ?v7) rfl rfl (by kernel_rfl) (by kernel_rfl) (by kernel_rfl) (Or.inl ⟨by rfl, ?y7⟩) hHeld ?r7
              case y7 => (intro w' hSw; (try dsimp only at hSw); go_simp; try with_reducible rfl)
              try simp only [Act.put, List.setIfInBounds_toArray, List.set_cons_zero, List.set_cons_succ]
              refine takeO 8 (some 83) (v := ?v8) rfl rfl (by kernel_rfl) (by kernel_rfl) (by kernel_rfl) (Or.inl ⟨by rfl, ?y8⟩) hHeld ?r8
              case y8 => (intro w' hSw; (try dsimp only at hSw); go_simp; try with_reducible rfl)
              try simp only [Act.put, List.setIfInBounds_toArray, List.set_cons_zero, List.set_cons_succ]
              refine takeO 9 (some 84) (v := ?v9) rfl rfl (by kernel_rfl) (by kernel_rfl) (by kernel_rfl) (Or.inl ⟨by rfl, ?y9⟩) hHeld ?r9
              case y9 => (intro w' hSw; (try dsimp only at hSw); go_simp; try with_reducible rfl)
              try simp only [Act.put, List.setIfInBounds_toArray, List.set_cons_zero, List.set_cons_succ]
              refine takeO 10 (some 14) (v := ?v10) rfl rfl (by kernel_rfl) (by kernel_rfl) (by kernel_rfl) (Or.inl ⟨by rfl, ?y10⟩) hHeld ?r10
              case y10 => (intro w' hSw; (try dsimp only at hSw); go_simp; try with_reducible rfl)
              try simp only [Act.put, List.setIfInBounds_toArray, List.set_cons_zero, List.set_cons_succ]
              refine takeO 11 (some 15) (v := ?v11) rfl rfl (by kernel_rfl) (by kernel_rfl) (by kernel_rfl) (Or.inl ⟨by rfl, ?y11⟩) hHeld ?r11
              case y11 => (intro w' hSw; (try dsimp only at hSw); go_simp; try with_reducible rfl)
              try simp only [Act.put, List.setIfInBounds_toArray, List.set_cons_zero, List.set_cons_succ]
              refine wpAnyH_done (by kernel_rfl) (Only.on ?_) _
              try go_wp2_with fail
              go_meet
              exact hREL
          ·
            obtain ⟨v8, u8, vX, uX, r2, b8, rX, hF⟩ := HO3.out
            go_simp
            rw [HFO.out]
            refine hK.out _ _ (H6.out.alloc _).obj (fun hHeld => ?_)
            clear hK K
            refine wpAnyH_ready (rs := [0]) (by kernel_rfl) (by simp) ?_
            refine AllReadyH.cons rfl (fun K hK => ?_) AllReadyH.nil
            go_simp
            refine hK.out _ _ ((H6.out.alloc _).alloc _).obj (fun hHeld => ?_)
            clear hK K
            refine wpAnyH_ready (rs := [2]) (by kernel_rfl) (by simp) ?_
            refine AllReadyH.cons rfl (fun K hK => ?_) AllReadyH.nil
            refine step_append_run (by rfl) _ _ 22 22 (by rfl) _ _ (by rfl) (by rfl) _ _ r2 ?_
            change K (Act.put _ (some 78) _) _
            simp only [Act.put, List.setIfInBounds_toArray, List.set_cons_zero, List.set_cons_succ]
            refine hK.out _ _ (H6.out.below b8).obj (fun hHeld => ?_)
            clear hK K r2
            refine wpAnyH_ready (rs := [5]) (by kernel_rfl) (by simp) ?_
            refine AllReadyH.cons rfl (fun K hK => ?_) AllReadyH.nil
            refine step_append_run (by rfl) _ _ 22 22 (by rfl) _ _ (by rfl) (by rfl) _ _ rX ?_
            change K (Act.put _ (some 81) _) _
            simp only [Act.put, List.setIfInBounds_toArray, List.set_cons_zero, List.set_cons_succ]
            obtain ⟨px, cx, qx, rfl, hAX, hbX⟩ := hF
            clear rX
            refine hK.out _ _ (H6.out.below hbX).obj (fun hHeld => ?_)
            clear hK K
            refine wpAnyH_ready (rs := [6]) (by kernel_rfl) (by simp) ?_
            refine AllReadyH.cons rfl (fun K hK => ?_) AllReadyH.nil
            go_simp
            refine (encodeF px cx gs qx uX hAX).mono ?_
            rintro e uY ⟨⟨vY, ws, rfl, hrowY, hpY, hzY⟩, hbY⟩
            dsimp only
            obtain ⟨pY, cY, rfl, haY⟩ := hrowY.arg
            have hbZ := btrans hbX hbY
            have hREL := relF_mk (gs := gs) pY cY hpY (btrans hbd hbZ)
            refine hK.out _ _ (H6.out.below hbZ).obj (fun hHeld => ?_)
            clear hK K
            generalize ws.length = wl at *
            refine takeO 7 (some 75) (v := ?v12) rfl rfl (by kernel_rfl) (by kernel_rfl) (by kernel_rfl) (Or.inl ⟨by rfl, ?y12⟩) hHeld ?r12
            case y12 => (intro w' hSw; (try dsimp only at hSw); go_simp; try with_reducible rfl)
            try simp only [Act.put, List.setIfInBounds_toArray, List.set_cons_zero, List.set_cons_succ]
            refine takeO 8 (some 83) (v := ?v13) rfl rfl (by kernel_rfl) (by kernel_rfl) (by kernel_rfl) (Or.inl ⟨by rfl, ?y13⟩) hHeld ?r13
            case y13 => (intro w' hSw; (try dsimp only at hSw); go_simp; try with_reducible rfl)
            try simp only [Act.put, List.setIfInBounds_toArray, List.set_cons_zero, List.set_cons_succ]
            refine takeO 9 (some 84) (v := ?v14) rfl rfl (by kernel_rfl) (by kernel_rfl) (by kernel_rfl) (Or.inl ⟨by rfl, ?y14⟩) hHeld ?r14
            case y14 => (intro w' hSw; (try dsimp only at hSw); go_simp; try with_reducible rfl)
            try simp only [Act.put, List.setIfInBounds_toArray, List.set_cons_zero, List.set_cons_succ]
            refine takeO 10 (some 14) (v := ?v15) rfl rfl (by kernel_rfl) (by kernel_rfl) (by kernel_rfl) (Or.inl ⟨by rfl, ?y15⟩) hHeld ?r15
            case y15 => (intro w' hSw; (try dsimp only at hSw); go_simp; try with_reducible rfl)
            try simp only [Act.put, List.setIfInBounds_toArray, List.set_cons_zero, List.set_cons_succ]
            refine takeO 11 (some 15) (v := ?v16) rfl rfl (by kernel_rfl) (by kernel_rfl) (by kernel_rfl) (Or.inl ⟨by rfl, ?y16⟩) hHeld ?r16
            case y16 => (intro w' hSw; (try dsimp only at hSw); go_simp; try with_reducible rfl)
            try simp only [Act.put, List.setIfInBounds_toArray, List.set_cons_zero, List.set_cons_succ]
            refine wpAnyH_done (by kernel_rfl) (Only.on ?_) _
            try go_wp2_with fail
            go_meet
            exact hREL
        case rest =>
          clear hu6 hsz HFO hbd H6 HO1 HO2 HO3 HB8 HL8 HAP6
          obtain ⟨pY, cY, W, rfl, rfl, hws, hbc⟩ := hcut
          have HBZ := hid (btrans HB7.out hbc)
          have hn16 := hfs16
          have hwr : wrap64 ((Y : Int) + (Zl : Int)) = (Y : Int) + (Zl : Int) := wrap_id (by omega) (by omega)
          clear hbc HB7
          by_cases hG : encE gs = 0
          · have hws := hws hG
            rw [HBG.out] at hws
            have hbg := bl_zero hG
            rw [HBG.out] at hbg
            have hF0 : F = 0 := HF0.out (by omega)
            have hz := HZ.out hF0
            subst hF0
            have hys := HYS.out
            have g1 : ¬ (W : Int) < (Y : Int) := by omega
            have g2 : (W : Int) ≤ (Y : Int) + (Zl : Int) := by omega
            have g3 : (Y : Int) ≤ (W : Int) := by omega
            rw [hG]
            clear hws hbg hz hys hG HBG HF0 HZ HYS
            go_wp2_with fail
            go_ret
            exact ⟨rfl, HBZ.out⟩
          · obtain ⟨h5, hor⟩ := encE_five HALL.out hG
            rw [h5]
            have hG5 : (16 < n + 1) ∨ 8192 < bl fs + e0 := by rw [HGL.out, HBG.out] at hor; exact hor
            clear hws hG h5 hor
            by_cases hn : n = 16
            · subst hn
              go_wp2_with fail
              go_ret
              exact ⟨rfl, HBZ.out⟩
            · have hn' : ((n : Int) == 16) = false := by simp; omega
              by_cases hF0 : F = 0
              · have hz := HZ.out hF0
                subst hF0
                have hys := HYS.out
                have g2 : (1024 : Int) < (Y : Int) + (Zl : Int) := by omega
                clear hz hys hG5 HBG HF0 HZ HYS hn
                go_wp2_with fail
                go_ret
                exact ⟨rfl, HBZ.out⟩
              · have hF5 := HF5.out hF0
                subst hF5
                clear hG5 HBG HF0 HZ HYS hF0 hn
                go_wp2_with fail
                go_ret
                exact ⟨rfl, HBZ.out⟩
  · go_enter Try.func9, Try.ntmps9
    go_wp2_with fail
    refine hsh.mono ?_
    rintro e u1 ⟨rfl, hb1⟩
    dsimp only
    have HA1 := hid (HA.out.below hb1)
    have HB1 := hid (btrans HB.out hb1)
    have hF := fewF2 pl capl l ql u1 (H0.out.keep HB1.out)
    clear hsh hb1 HA HB
    go_wp2_with fail
    refine hF.mono ?_
    rintro e u2 ⟨⟨p2, c2, rfl, hO2⟩, hb2⟩
    dsimp only
    have HB2 := hid (btrans HB1.out hb2)
    have hLat : ∃ q2, ∀ w'', Fr (fun k => k = w.heap.size) u2 w'' → Below w.heap.size w w'' → ArgM w'' p2 c2 (fewM l) q2 := ⟨_, fun w'' hf hb => by
      obtain ⟨p', c', hv, hA⟩ := few_arg hO2 hf (fun k hk => by have := HA1.out.lt; omega) H0.out hb
      cases hv; exact hA⟩
    obtain ⟨q2, hLat⟩ := hLat
    have hA2 := hLat u2 (Fr.refl _ _) HB2.out
    have LAT := hid hLat
    have HA2 := hid (HA1.out.below hb2)
    have HL2 := hid hA2
    have hEn := encodeF p2 c2 (fewM l) q2 u2 hA2
    clear hF hb2 HB1 hA2 hLat hO2 H0 HA1
    generalize fewM l = fs at *
    go_wp2_with fail
    refine hEn.mono ?_
    rintro e u3 ⟨⟨v3, ys, rfl, hrow3, hp3, hz3⟩, hb3⟩
    dsimp only
    have HB3 := hid (btrans HB2.out hb3)
    have HB23 := hid hb3
    have HA3 := hid (HA2.out.below hb3)
    have HL3 := hid (HL2.out.keep hb3)
    obtain ⟨p3, c3, rfl, ha3⟩ := hrow3.arg
    have hle3 := ha3.le; have hm3 := ha3.most
    unfold maxLen at hm3
    have HP3 := hid hp3
    clear hEn hb3 HB2 HA2 HL2 hp3 hz3 hrow3 ha3
    by_cases hE : encE fs = 0
    rotate_left
    · have hEb : (encE fs != 0) = true := by simp [hE]
      generalize encE fs = E at *
      clear HP3 HA3 HL3 hE HR HEn
      go_wp2_with fail
      go_ret
      exact ⟨rfl, HB3.out⟩
    obtain ⟨f3, hpk3⟩ := HP3.out hE
    have hys := packs_size hpk3
    have hbl3 := bl_zero hE
    have hfs16 : fs.length ≤ 16 := (encE_zero hE).2.1
    have hle2 := HL3.out.le; have hm2 := HL3.out.most
    unfold maxLen at hm2
    rw [hE]
    obtain ⟨n, hn⟩ : ∃ n, fs.length = n := ⟨_, rfl⟩
    obtain ⟨Y, hY⟩ : ∃ Y, ys.length = Y := ⟨_, rfl⟩
    have HN := hid hn; have HY := hid hY; have HE := hid hE
    rw [hn] at hle2 hfs16 ⊢
    rw [hY] at hys hle3 ⊢
    have hY1024 : Y ≤ 1024 := by omega
    have HYS := hid hys; have HBL := hid hbl3
    clear hpk3 HP3 hn hY hE hys hbl3
    go_wp2_with fail
    go_loopw [8, 9] (fun lv i wr => ∃ (j L : Nat), i = .int .i64 (j : Int) ∧ lv = .int .i64 (L : Int) ∧ j ≤ n + 1 ∧ L ≤ Y ∧ (j ≤ n → L ≤ (bl (fs.take j) + 7) / 8) ∧ Below u3.heap.size u3 wr) (fun _ i _ => n + 1 - (intOf i).toNat)
    case atStart => exact ⟨0, 0, rfl, rfl, by omega, by omega, fun _ => by omega, Below.refl _ _⟩
    case round =>
      obtain ⟨j, L, rfl, rfl, hj, hLY, hL, hb⟩ := hrel
      by_cases hlt : j ≤ n
      · have hlen : (fs.take j).length = j := by rw [List.length_take, HN.out]; omega
        have hEn := encodeF p2 c2 (fs.take j) q2 wr ((HL3.out.keep hb).take j)
        rw [encE_take HE.out j] at hEn
        obtain ⟨bits, hbits⟩ : ∃ bits, encJ (fs.take j) (fs.take j).length = bits := ⟨_, rfl⟩
        rw [hbits, hlen] at hEn
        have HBITS := hid hbits
        have HB4 := hid hb
        have hL' := hL hlt
        have HLL := hid hL'
        have i1 : (j : Int) ≤ (n : Int) := by omega
        have i2 : (j : Int) ≤ (c2 : Int) := by omega
        clear hbits hb hL hL' HR HEn
        go_wp2_with fail
        refine hEn.mono ?_
        rintro e u4 ⟨⟨v4, zs, rfl, hrow4, hp4, hz4⟩, hb4⟩
        dsimp only
        obtain ⟨f4, hpk4⟩ := hp4 rfl
        rw [← HBITS.out] at hpk4
        have hzs := packs_size hpk4
        have hful := bl_full fs j
        have hys := HYS.out
        have hL' := HLL.out
        have hnx : (bl (fs.take j) + 7) / 8 ≤ (bl (fs.take (j + 1)) + 7) / 8 := by have := bl_take fs (i := j) (j := j + 1) (by omega); omega
        obtain ⟨p4, c4, rfl, ha4⟩ := hrow4.arg
        obtain ⟨Z, hZ⟩ : ∃ Z, zs.length = Z := ⟨_, rfl⟩
        rw [hZ] at hzs ⊢
        have k1 : ¬ (Z : Int) < (L : Int) := by omega
        have k2 : ¬ (Y : Int) < (Z : Int) := by omega
        have k3 : Z ≤ Y := by omega
        have k4 : j + 1 ≤ n → Z ≤ (bl (fs.take (j + 1)) + 7) / 8 := fun _ => by omega
        have HB5 := hid (btrans HB4.out hb4)
        have HK4 := hid k4
        clear hEn hrow4 hp4 hz4 hb4 hpk4 hzs hful hys hL' hnx ha4 hZ k4 HLL hlen HBITS HB4
        go_wp2_with fail
        go_roundw
        case rel => exact ⟨j + 1, Z, by go_num, rfl, by omega, k3, HK4.out, HB5.out⟩
        case measure => simp [intOf]; omega
      · have hjn : j = n + 1 := by omega
        subst hjn
        have i1 : ¬ ((n + 1 : Nat) : Int) ≤ (n : Int) := by omega
        have A1 := HA3.out.below hb
        have c22 := A1.cell (i := 22) rfl
        have f22 := A1.thaw 22
        have HB4 := hid (btrans HB3.out hb)
        have HL4 := hid (HL3.out.keep hb)
        have A2 := A1.set 22 (.slice p LL cap)
        simp only [List.setIfInBounds_toArray, List.set_cons_zero, List.set_cons_succ] at A2
        have HA4 := hid A2
        have HB5 := hid (HB4.out.setCell (p := ⟨w.heap.size, 22, none⟩) (Nat.le_refl _) (.slice p LL cap))
        have hFr5 : Fr (fun k => k = w.heap.size) u2 (wr.setCell ⟨w.heap.size, 22, none⟩ (.slice p LL cap)) := (Fr.of_below (fun k => k = w.heap.size) (btrans HB23.out hb)).setCell (S := fun k => k = w.heap.size) (p := ⟨w.heap.size, 22, none⟩) (show (fun k => k = w.heap.size) w.heap.size from rfl) _
        have HL5 := hid (LAT.out _ hFr5 HB5.out)
        clear hL hb A1 A2 HA3 HB3 HL3 HL4 hFr5 LAT HB23
        go_wp2_with (refine wpList_load_row rfl 40 _ rfl w.heap.size rfl 40 _ (0, 0) _ HA4.out.obj Try.underlying40 rfl size_msg ?_)
        clear c22 f22
        refine (HR.out _ HB5.out).mono ?_
        rintro e u4 ⟨rfl, hb4⟩
        dsimp only
        have HB6 := hid (btrans HB5.out hb4)
        have HA5 := hid (HA4.out.below hb4)
        have HL6 := hid (HL5.out.keep hb4)
        clear hb4 HR HA4 HB5 HL5 HB4
        cases hr : rgtB m'
        · go_wp2_with fail
          go_ret
          exact ⟨rfl, HB6.out⟩
        have hEn := HEn.out u4 u4.heap.size rfl HB6.out
        have HRM := hid hr
        clear hr HEn
        go_wp2_with (refine wpList_load_row rfl 40 _ rfl w.heap.size rfl 40 _ (0, 0) _ HA5.out.obj Try.underlying40 rfl size_msg ?_)
        refine hEn.mono ?_
        rintro e u5 ⟨⟨v5, zs, rfl, hrow5, hp5, hz5⟩, hb5⟩
        dsimp only
        have hb45 := Below.trans ((Below.refl u4.heap.size u4).alloc (Nat.le_refl _) _) (hb5.mono (by simp))
        have HB7 := hid (btrans HB6.out hb45)
        have HA6 := HA5.out.below hb45
        have HL7 := HL6.out.keep hb45
        obtain ⟨p5, c5, rfl, ha5⟩ := hrow5.arg
        have hle5 := ha5.le; have hm5 := ha5.most
        unfold maxLen at hm5
        have HP5 := hid hp5; have HZ5 := hid hz5
        obtain ⟨Zl, hZl⟩ : ∃ Zl, zs.length = Zl := ⟨_, rfl⟩
        rw [hZl] at hle5 ⊢
        obtain ⟨F, hF⟩ : ∃ F, encE [m'] = F := ⟨_, rfl⟩
        rw [hF]
        have HF := hid hF; have HZL := hid hZl
        obtain ⟨u6, hu6⟩ : ∃ u6, u5.drew = u6 := ⟨_, rfl⟩
        have hbd : Below u5.heap.size u5 u6 := by rw [← hu6]; exact below_drewN u5 1
        have hA6 := HA6.below hbd
        have HL8 := hid (HL7.keep hbd)
        have HB8 := hid (btrans HB7.out hbd)
        have HAP6 := hid (HAP.out.keep HB8.out)
        obtain ⟨cs, hcs⟩ : ∃ cs : Array Value, #[.int .i64 m.kind, .int .u16 m.seq, .int .u16 m.cmd.seq, .int .u8 m.cmd.but, .int .i8 m.cmd.dx, .int .i8 m.cmd.dy, .int .i64 m.cmd.tk, .int .u16 m.prov, .int .i64 m.id, .int .i64 m.shot, .int .i64 m.dir.x, .int .i64 m.dir.y, .int .i64 m.dir.z, .int .i64 m.why, .int .i64 m.pos.x, .int .i64 m.pos.y, .int .i64 m.pos.z, .int .i64 m.vel.x, .int .i64 m.vel.y, .int .i64 m.vel.z, .int .u32 m.tick, .int .u32 m.base, .slice p LL cap] = cs := ⟨_, rfl⟩
        have hsz : cs.size = 23 := by rw [← hcs]; rfl
        have HFO := hid (fold23 m (.slice p LL cap) cs hcs)
        have hcs2 : msgC m' (.slice p m'.bytes.length cap) = cs := by rw [HC.out, HM.out, ← hcs]; rfl
        rw [hcs] at hA6
        have H6 := hid hA6
        obtain ⟨e0, he0⟩ : ∃ e0, (carr m').enc.length = e0 := ⟨_, rfl⟩
        obtain ⟨gs, hgs⟩ : ∃ gs, fs ++ [m'] = gs := ⟨_, rfl⟩
        have HALL := hid (show gs.all rgtB = true by rw [← hgs]; exact all_snoc (encE_zero HE.out).1 HRM.out)
        have HBG := hid (show bl gs = bl fs + e0 by rw [← hgs, bl_one, he0])
        have HGL := hid (show gs.length = n + 1 by rw [← hgs, List.length_append, List.length_singleton, HN.out])
        have hb1 : bl [m'] = 5 + e0 := by rw [bl_single, he0]
        have hbf : 5 ≤ bl fs := by unfold bl; omega
        have HF0 := hid (show bl fs + e0 ≤ 8192 → F = 0 from fun h => by rw [← HF.out]; exact encE_of (all_one HRM.out) (by simp) (by omega))
        have HF5 := hid (show F ≠ 0 → F = 5 from fun h => by rw [← HF.out] at h ⊢; exact (encE_five (all_one HRM.out) h).1)
        have HZ := hid (show F = 0 → Zl = (5 + e0 + 7) / 8 from fun h => by obtain ⟨f5, hpk⟩ := HP5.out (by rw [HF.out]; exact h); have := packs_size hpk; rw [hb1, HZL.out] at this; exact this)
        have hZ1024 : Zl ≤ 1024 := by
          by_cases h : F = 0
          · have h1 := HZ.out h; have h2 := bl_zero (HF.out.trans h); omega
          · have h1 := HZ5.out (by rw [HF.out]; exact h); have h2 := HZL.out; rw [h1] at h2; simp at h2; omega
        have hO1 := ord1 HL8.out HAP6.out HOK.out (by rw [HN.out]; exact hfs16)
        have hO2 := ord2 HL8.out HAP6.out HOK.out (by rw [HN.out]; exact hfs16)
        have hO3 := ord3 HL8.out HAP6.out HOK.out (by rw [HN.out]; exact hfs16)
        rw [hcs2, HN.out, hgs] at hO1 hO2 hO3
        have HO1 := hid hO1; have HO2 := hid hO2; have HO3 := hid hO3
        clear he0 hgs hb1 hbf hO1 hO2 hO3 HP5 HZ5
        clear hEn hb5 hrow5 hp5 hz5 hb45 ha5 HA5 HL6 HA6 HL7 hZl hF HB6 hcs hcs2 hA6
        go_upto_region 18 with fail
        generalize Value.agg #[.int .i64 m.kind, .int .u16 m.seq, .int .u16 m.cmd.seq, .int .u8 m.cmd.but, .int .i8 m.cmd.dx, .int .i8 m.cmd.dy, .int .i64 m.cmd.tk, .int .u16 m.prov, .int .i64 m.id, .int .i64 m.shot, .int .i64 m.dir.x, .int .i64 m.dir.y, .int .i64 m.dir.z, .int .i64 m.why, .int .i64 m.pos.x, .int .i64 m.pos.y, .int .i64 m.pos.z, .int .i64 m.vel.x, .int .i64 m.vel.y, .int .i64 m.vel.z, .int .u32 m.tick, .int .u32 m.base, .slice p LL cap] = va
        go_cut [14, 15] from 75 to 84 (fun x y W => RelF gs u5 x y W)
        case first =>
          refine region_held (fun u => u.heap[w.heap.size]? = some (.cells cs 40 (0, 0))) 12 rfl (by kernel_rfl) (by rw [hu6]; exact H6.out.obj) ?_
          rw [hu6]
          clear hu6
          intro hHeld
          refine takeO 1 (some 77) (v := ?v17) rfl rfl (by kernel_rfl) (by kernel_rfl) (by kernel_rfl) (Or.inl ⟨by rfl, ?y17⟩) hHeld ?r17
          case y17 => (intro w' hSw; (try dsimp only at hSw); go_simp; try with_reducible rfl)
          try simp only [Act.put, List.setIfInBounds_toArray, List.set_cons_zero, List.set_cons_succ]
          refine takeO 3 (some 79) rfl rfl (by kernel_rfl) (by kernel_rfl) (by kernel_rfl) (yields_row (by rfl) rfl rfl (fun w h => h) hsz) hHeld ?_
          try simp only [Act.put, List.setIfInBounds_toArray, List.set_cons_zero, List.set_cons_succ]
          refine wpAnyH_ready (rs := [0, 4]) (by kernel_rfl) (by simp) ?_
          refine AllReadyH.cons rfl (fun K hK => ?_) (AllReadyH.cons rfl (fun K hK => ?_) AllReadyH.nil)
          ·
            go_simp
            refine hK.out _ _ (H6.out.alloc _).obj (fun hHeld => ?_)
            clear hK K
            refine wpAnyH_ready (rs := [2, 4]) (by kernel_rfl) (by simp) ?_
            refine AllReadyH.cons rfl (fun K hK => ?_) (AllReadyH.cons rfl (fun K hK => ?_) AllReadyH.nil)
            · obtain ⟨v8, u8, vX, uX, r2, b8, rX, hF⟩ := HO1.out
              refine step_append_run (by rfl) _ _ 22 22 (by rfl) _ _ (by rfl) (by rfl) _ _ r2 ?_
              change K (Act.put _ (some 78) _) _
              simp only [Act.put, List.setIfInBounds_toArray, List.set_cons_zero, List.set_cons_succ]
              refine hK.out _ _ (H6.out.below b8).obj (fun hHeld => ?_)
              clear hK K r2
              refine wpAnyH_ready (rs := [4]) (by kernel_rfl) (by simp) ?_
              refine AllReadyH.cons rfl (fun K hK => ?_) AllReadyH.nil
              go_simp
              rw [HFO.out]
              refine hK.out _ _ ((H6.out.below b8).alloc _).obj (fun hHeld => ?_)
              clear hK K
              refine wpAnyH_ready (rs := [5]) (by kernel_rfl) (by simp) ?_
              refine AllReadyH.cons rfl (fun K hK => ?_) AllReadyH.nil
              refine step_append_run (by rfl) _ _ 22 22 (by rfl) _ _ (by rfl) (by rfl) _ _ rX ?_
              change K (Act.put _ (some 81) _) _
              simp only [Act.put, List.setIfInBounds_toArray, List.set_cons_zero, List.set_cons_succ]
              obtain ⟨px, cx, qx, rfl, hAX, hbX⟩ := hF
              clear rX
              refine hK.out _ _ (H6.out.below hbX).obj (fun hHeld => ?_)
              clear hK K
              refine wpAnyH_ready (rs := [6]) (by kernel_rfl) (by simp) ?_
              refine AllReadyH.cons rfl (fun K hK => ?_) AllReadyH.nil
              go_simp
              refine (encodeF px cx gs qx uX hAX).mono ?_
              rintro e uY ⟨⟨vY, ws, rfl, hrowY, hpY, hzY⟩, hbY⟩
              dsimp only
              obtain ⟨pY, cY, rfl, haY⟩ := hrowY.arg
              have hbZ := btrans hbX hbY
              have hREL := relF_mk (gs := gs) pY cY hpY (btrans hbd hbZ)
              refine hK.out _ _ (H6.out.below hbZ).obj (fun hHeld => ?_)
              clear hK K
              generalize ws.length = wl at *
              refine takeO 7 (some 75) (v := ?v18) rfl rfl (by kernel_rfl) (by kernel_rfl) (by kernel_rfl) (Or.inl ⟨by rfl, ?y18⟩) hHeld ?r18
              case y18 => (intro w' hSw; (try dsimp only at hSw); go_simp; try with_reducible rfl)
              try simp only [Act.put, List.setIfInBounds_toArray, List.set_cons_zero, List.set_cons_succ]
              refine takeO 8 (some 83) (v := ?v19) rfl rfl (by kernel_rfl) (by kernel_rfl) (by kernel_rfl) (Or.inl ⟨by rfl, ?y19⟩) hHeld ?r19
              case y19 => (intro w' hSw; (try dsimp only at hSw); go_simp; try with_reducible rfl)
              try simp only [Act.put, List.setIfInBounds_toArray, List.set_cons_zero, List.set_cons_succ]
              refine takeO 9 (some 84) (v := ?v20) rfl rfl (by kernel_rfl) (by kernel_rfl) (by kernel_rfl) (Or.inl ⟨by rfl, ?y20⟩) hHeld ?r20
              case y20 => (intro w' hSw; (try dsimp only at hSw); go_simp; try with_reducible rfl)
              try simp only [Act.put, List.setIfInBounds_toArray, List.set_cons_zero, List.set_cons_succ]
              refine takeO 10 (some 14) (v := ?v21) rfl rfl (by kernel_rfl) (by kernel_rfl) (by kernel_rfl) (Or.inl ⟨by rfl, ?y21⟩) hHeld ?r21
              case y21 => (intro w' hSw; (try dsimp only at hSw); go_simp; try with_reducible rfl)
              try simp only [Act.put, List.setIfInBounds_toArray, List.set_cons_zero, List.set_cons_succ]
              refine takeO 11 (some 15) (v := ?v22) rfl rfl (by kernel_rfl) (by kernel_rfl) (by kernel_rfl) (Or.inl ⟨by rfl, ?y22⟩) hHeld ?r22
              case y22 => (intro w' hSw; (try dsimp only at hSw); go_simp; try with_reducible rfl)
              try simp only [Act.put, List.setIfInBounds_toArray, List.set_cons_zero, List.set_cons_succ]
              refine wpAnyH_done (by kernel_rfl) (Only.on ?_) _
              try go_wp2_with fail
              go_meet
              exact hREL
            · obtain ⟨v8, u8, vX, uX, r2, b8, rX, hF⟩ := HO2.out
              go_simp
              rw [HFO.out]
              refine hK.out _ _ ((H6.out.alloc _).alloc _).obj (fun hHeld => ?_)
              clear hK K
              refine wpAnyH_ready (rs := [2]) (by kernel_rfl) (by simp) ?_
              refine AllReadyH.cons rfl (fun K hK => ?_) AllReadyH.nil
              refine step_append_run (by rfl) _ _ 22 22 (by rfl) _ _ (by rfl) (by rfl) _ _ r2 ?_
              change K (Act.put _ (some 78) _) _
              simp only [Act.put, List.setIfInBounds_toArray, List.set_cons_zero, List.set_cons_succ]
              refine hK.out _ _ (H6.out.below b8).obj (fun hHeld => ?_)
              clear hK K r2
              refine wpAnyH_ready (rs := [5]) (by kernel_rfl) (by simp) ?_
              refine AllReadyH.cons rfl (fun K hK => ?_) AllReadyH.nil
              refine step_append_run (by rfl) _ _ 22 22 (by rfl) _ _ (by rfl) (by rfl) _ _ rX ?_
              change K (Act.put _ (some 81) _) _
              simp only [Act.put, List.setIfInBounds_toArray, List.set_cons_zero, List.set_cons_succ]
              obtain ⟨px, cx, qx, rfl, hAX, hbX⟩ := hF
              clear rX
              refine hK.out _ _ (H6.out.below hbX).obj (fun hHeld => ?_)
              clear hK K
              refine wpAnyH_ready (rs := [6]) (by kernel_rfl) (by simp) ?_
              refine AllReadyH.cons rfl (fun K hK => ?_) AllReadyH.nil
              go_simp
              refine (encodeF px cx gs qx uX hAX).mono ?_
              rintro e uY ⟨⟨vY, ws, rfl, hrowY, hpY, hzY⟩, hbY⟩
              dsimp only
              obtain ⟨pY, cY, rfl, haY⟩ := hrowY.arg
              have hbZ := btrans hbX hbY
              have hREL := relF_mk (gs := gs) pY cY hpY (btrans hbd hbZ)
              refine hK.out _ _ (H6.out.below hbZ).obj (fun hHeld => ?_)
              clear hK K
              generalize ws.length = wl at *
              refine takeO 7 (some 75) (v := ?v23) rfl rfl (by kernel_rfl) (by kernel_rfl) (by kernel_rfl) (Or.inl ⟨by rfl, ?y23⟩) hHeld ?r23
              case y23 => (intro w' hSw; (try dsimp only at hSw); go_simp; try with_reducible rfl)
              try simp only [Act.put, List.setIfInBounds_toArray, List.set_cons_zero, List.set_cons_succ]
              refine takeO 8 (some 83) (v := ?v24) rfl rfl (by kernel_rfl) (by kernel_rfl) (by kernel_rfl) (Or.inl ⟨by rfl, ?y24⟩) hHeld ?r24
              case y24 => (intro w' hSw; (try dsimp only at hSw); go_simp; try with_reducible rfl)
              try simp only [Act.put, List.setIfInBounds_toArray, List.set_cons_zero, List.set_cons_succ]
              refine takeO 9 (some 84) (v := ?v25) rfl rfl (by kernel_rfl) (by kernel_rfl) (by kernel_rfl) (Or.inl ⟨by rfl, ?y25⟩) hHeld ?r25
              case y25 => (intro w' hSw; (try dsimp only at hSw); go_simp; try with_reducible rfl)
              try simp only [Act.put, List.setIfInBounds_toArray, List.set_cons_zero, List.set_cons_succ]
              refine takeO 10 (some 14) (v := ?v26) rfl rfl (by kernel_rfl) (by kernel_rfl) (by kernel_rfl) (Or.inl ⟨by rfl, ?y26⟩) hHeld ?r26
              case y26 => (intro w' hSw; (try dsimp only at hSw); go_simp; try with_reducible rfl)
              try simp only [Act.put, List.setIfInBounds_toArray, List.set_cons_zero, List.set_cons_succ]
              refine takeO 11 (some 15) (v := ?v27) rfl rfl (by kernel_rfl) (by kernel_rfl) (by kernel_rfl) (Or.inl ⟨by rfl, ?y27⟩) hHeld ?r27
              case y27 => (intro w' hSw; (try dsimp only at hSw); go_simp; try with_reducible rfl)
              try simp only [Act.put, List.setIfInBounds_toArray, List.set_cons_zero, List.set_cons_succ]
              refine wpAnyH_done (by kernel_rfl) (Only.on ?_) _
              try go_wp2_with fail
              go_meet
              exact hREL
          ·
            obtain ⟨v8, u8, vX, uX, r2, b8, rX, hF⟩ := HO3.out
            go_simp
            rw [HFO.out]
            refine hK.out _ _ (H6.out.alloc _).obj (fun hHeld => ?_)
            clear hK K
            refine wpAnyH_ready (rs := [0]) (by kernel_rfl) (by simp) ?_
            refine AllReadyH.cons rfl (fun K hK => ?_) AllReadyH.nil
            go_simp
            refine hK.out _ _ ((H6.out.alloc _).alloc _).obj (fun hHeld => ?_)
            clear hK K
            refine wpAnyH_ready (rs := [2]) (by kernel_rfl) (by simp) ?_
            refine AllReadyH.cons rfl (fun K hK => ?_) AllReadyH.nil
            refine step_append_run (by rfl) _ _ 22 22 (by rfl) _ _ (by rfl) (by rfl) _ _ r2 ?_
            change K (Act.put _ (some 78) _) _
            simp only [Act.put, List.setIfInBounds_toArray, List.set_cons_zero, List.set_cons_succ]
            refine hK.out _ _ (H6.out.below b8).obj (fun hHeld => ?_)
            clear hK K r2
            refine wpAnyH_ready (rs := [5]) (by kernel_rfl) (by simp) ?_
            refine AllReadyH.cons rfl (fun K hK => ?_) AllReadyH.nil
            refine step_append_run (by rfl) _ _ 22 22 (by rfl) _ _ (by rfl) (by rfl) _ _ rX ?_
            change K (Act.put _ (some 81) _) _
            simp only [Act.put, List.setIfInBounds_toArray, List.set_cons_zero, List.set_cons_succ]
            obtain ⟨px, cx, qx, rfl, hAX, hbX⟩ := hF
            clear rX
            refine hK.out _ _ (H6.out.below hbX).obj (fun hHeld => ?_)
            clear hK K
            refine wpAnyH_ready (rs := [6]) (by kernel_rfl) (by simp) ?_
            refine AllReadyH.cons rfl (fun K hK => ?_) AllReadyH.nil
            go_simp
            refine (encodeF px cx gs qx uX hAX).mono ?_
            rintro e uY ⟨⟨vY, ws, rfl, hrowY, hpY, hzY⟩, hbY⟩
            dsimp only
            obtain ⟨pY, cY, rfl, haY⟩ := hrowY.arg
            have hbZ := btrans hbX hbY
            have hREL := relF_mk (gs := gs) pY cY hpY (btrans hbd hbZ)
            refine hK.out _ _ (H6.out.below hbZ).obj (fun hHeld => ?_)
            clear hK K
            generalize ws.length = wl at *
            refine takeO 7 (some 75) (v := ?v28) rfl rfl (by kernel_rfl) (by kernel_rfl) (by kernel_rfl) (Or.inl ⟨by rfl, ?y28⟩) hHeld ?r28
            case y28 => (intro w' hSw; (try dsimp only at hSw); go_simp; try with_reducible rfl)
            try simp only [Act.put, List.setIfInBounds_toArray, List.set_cons_zero, List.set_cons_succ]
            refine takeO 8 (some 83) (v := ?v29) rfl rfl (by kernel_rfl) (by kernel_rfl) (by kernel_rfl) (Or.inl ⟨by rfl, ?y29⟩) hHeld ?r29
            case y29 => (intro w' hSw; (try dsimp only at hSw); go_simp; try with_reducible rfl)
            try simp only [Act.put, List.setIfInBounds_toArray, List.set_cons_zero, List.set_cons_succ]
            refine takeO 9 (some 84) (v := ?v30) rfl rfl (by kernel_rfl) (by kernel_rfl) (by kernel_rfl) (Or.inl ⟨by rfl, ?y30⟩) hHeld ?r30
            case y30 => (intro w' hSw; (try dsimp only at hSw); go_simp; try with_reducible rfl)
            try simp only [Act.put, List.setIfInBounds_toArray, List.set_cons_zero, List.set_cons_succ]
            refine takeO 10 (some 14) (v := ?v31) rfl rfl (by kernel_rfl) (by kernel_rfl) (by kernel_rfl) (Or.inl ⟨by rfl, ?y31⟩) hHeld ?r31
            case y31 => (intro w' hSw; (try dsimp only at hSw); go_simp; try with_reducible rfl)
            try simp only [Act.put, List.setIfInBounds_toArray, List.set_cons_zero, List.set_cons_succ]
            refine takeO 11 (some 15) (v := ?v32) rfl rfl (by kernel_rfl) (by kernel_rfl) (by kernel_rfl) (Or.inl ⟨by rfl, ?y32⟩) hHeld ?r32
            case y32 => (intro w' hSw; (try dsimp only at hSw); go_simp; try with_reducible rfl)
            try simp only [Act.put, List.setIfInBounds_toArray, List.set_cons_zero, List.set_cons_succ]
            refine wpAnyH_done (by kernel_rfl) (Only.on ?_) _
            try go_wp2_with fail
            go_meet
            exact hREL
        case rest =>
          clear hu6 hsz HFO hbd H6 HO1 HO2 HO3 HB8 HL8 HAP6
          obtain ⟨pY, cY, W, rfl, rfl, hws, hbc⟩ := hcut
          have HBZ := hid (btrans HB7.out hbc)
          have hn16 := hfs16
          have hwr : wrap64 ((Y : Int) + (Zl : Int)) = (Y : Int) + (Zl : Int) := wrap_id (by omega) (by omega)
          clear hbc HB7
          by_cases hG : encE gs = 0
          · have hws := hws hG
            rw [HBG.out] at hws
            have hbg := bl_zero hG
            rw [HBG.out] at hbg
            have hF0 : F = 0 := HF0.out (by omega)
            have hz := HZ.out hF0
            subst hF0
            have hys := HYS.out
            have g1 : ¬ (W : Int) < (Y : Int) := by omega
            have g2 : (W : Int) ≤ (Y : Int) + (Zl : Int) := by omega
            have g3 : (Y : Int) ≤ (W : Int) := by omega
            rw [hG]
            clear hws hbg hz hys hG HBG HF0 HZ HYS
            go_wp2_with fail
            go_ret
            exact ⟨rfl, HBZ.out⟩
          · obtain ⟨h5, hor⟩ := encE_five HALL.out hG
            rw [h5]
            have hG5 : (16 < n + 1) ∨ 8192 < bl fs + e0 := by rw [HGL.out, HBG.out] at hor; exact hor
            clear hws hG h5 hor
            by_cases hn : n = 16
            · subst hn
              go_wp2_with fail
              go_ret
              exact ⟨rfl, HBZ.out⟩
            · have hn' : ((n : Int) == 16) = false := by simp; omega
              by_cases hF0 : F = 0
              · have hz := HZ.out hF0
                subst hF0
                have hys := HYS.out
                have g2 : (1024 : Int) < (Y : Int) + (Zl : Int) := by omega
                clear hz hys hG5 HBG HF0 HZ HYS hn
                go_wp2_with fail
                go_ret
                exact ⟨rfl, HBZ.out⟩
              · have hF5 := HF5.out hF0
                subst hF5
                clear hG5 HBG HF0 HZ HYS hF0 hn
                go_wp2_with fail
                go_ret
                exact ⟨rfl, HBZ.out⟩
end Go.Proofs.Ytnflpgbmhllnaaa
