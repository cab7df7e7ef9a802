/- Layer 5 (message): at most twenty messages, cut. -/
import Derived.Test.YtkmiogaklmgnkaaMsX
namespace Go.Proofs.Ytkmiogaklmgnkaa
open Go.RowKit Go.Shelf
set_option linter.unusedVariables false
set_option linter.unusedSimpArgs false
attribute [local go_sem ↓] Go.wp_at_zero Go.wp_at_succ

theorem own_push {w : World} {B : Nat} {v : Value} {ms : List Msg} {q : Nat → Value} {m : Msg} {p : Option Addr} {n c : Nat} (ty : TypeId) (h : w.ownsRow B 40 23 v ms.length (msCells ms q)) (hB : B ≤ w.heap.size) (hl : ms.length ≤ 100) :
    ∃ v' w', (Builtin.append_ #[22, 22] ty #[v, .slice (some ⟨w.heap.size, 0, none⟩) 1 1]).run Try.prog (w.alloc (.cells (msgC m (.slice p n c)) 40)) = .ok v' w' ∧
      w'.ownsRow B 40 23 v' (ms.length + 1) (msCells (ms ++ [m]) (snocQ q ms.length (.slice p n c))) ∧ Fr (fun k => v.ownBlock = some k) w w' := by
  have hone := msgC_one m p n c
  obtain ⟨i0, hi, hz0, hz1, hz2⟩ := info_parts info_msg
  obtain ⟨u, hu⟩ : ∃ u, Value.slice p n c = u := ⟨_, rfl⟩
  rw [hu] at hone ⊢
  obtain ⟨w1, hw1⟩ : ∃ w1, w.alloc (.cells (msgC m u) 40) = w1 := ⟨_, rfl⟩
  have hs1 : w1.heap.size = w.heap.size + 1 := by rw [← hw1]; simp
  have hb1 : Below w.heap.size w w1 := by rw [← hw1]; exact (Below.refl _ _).alloc (Nat.le_refl _) _
  have hnew : ∀ j x, (msgC m u).toList[j]? = some x → w1.cell? ((⟨w.heap.size, 0, none⟩ : Addr).add j) = some x := by
    intro j x hx
    rw [Addr.add_lit, ← hw1, Nat.zero_add, cell_of_row _ _ _ _ _ _ (heap_alloc_new w _)]
    simpa using hx
  have h1 := owns_same (w' := w1) h (fun k hk => hb1.block k (h.lt k hk).2)
  have hsz : (msgC m u).toList.length = 1 * 23 := rfl
  obtain ⟨g, cap', w', hrun, ho, hg, hgg, _⟩ := run_append_lies (P := Try.prog) w1 22 ty B 40 i0 (.agg #[.int .i64 0, .int .u16 0, .int .u16 0, .int .u8 0, .int .i8 0, .int .i8 0, .int .i64 0, .int .u16 0, .int .i64 0, .int .i64 0, .int .i64 0, .int .i64 0, .int .i64 0, .int .i64 0, .int .i64 0, .int .i64 0, .int .i64 0, .int .i64 0, .int .i64 0, .int .i64 0, .int .u32 0, .int .u32 0, .slice none 0 0]) 23 168 Try.underlying22 hi hz0 hz1 hz2 rfl (by decide) v ms.length (msCells ms q) h1 ⟨w.heap.size, 0, none⟩ 1 1 (msgC m u).toList hsz hnew hone (by omega) (by unfold maxLen; omega) (by omega) (by omega) w1.heap.size rfl
  rw [← msCells_snoc] at ho
  rw [hw1]
  exact ⟨_, w', hrun, ho, (Fr.of_below _ hb1).trans (Fr.of_grown hg (fun k e => e)) (fun _ _ e => e)⟩
def fewM (ms : List Msg) : List Msg := (ms.take 20).map (cutM 1100)
def fewQ (ms : List Msg) (q : Nat → Option Addr × Nat) (i : Nat) : Value := .slice (q i).1 (cutM 1100 (mg ms i)).bytes.length (q i).2
def fewJ (ms : List Msg) (j : Nat) : List Msg := (ms.take j).map (cutM 1100)
theorem fewJ_len (ms : List Msg) {j : Nat} (h : j ≤ ms.length) : (fewJ ms j).length = j := by unfold fewJ; simp; omega
theorem fewJ_succ (ms : List Msg) {j : Nat} (h : j < ms.length) : fewJ ms (j + 1) = fewJ ms j ++ [cutM 1100 (mg ms j)] := by
  unfold fewJ mg
  rw [List.take_add_one, List.map_append, List.getElem?_eq_getElem h, List.getD_eq_getElem?_getD, List.getElem?_eq_getElem h]
  rfl
theorem fewJ_mg (ms : List Msg) {i j : Nat} (hi : i < j) (h : j ≤ ms.length) : mg (fewJ ms j) i = cutM 1100 (mg ms i) := by
  unfold mg fewJ
  rw [List.getD_eq_getElem?_getD, List.getD_eq_getElem?_getD, List.getElem?_map, List.getElem?_take_of_lt hi, List.getElem?_eq_getElem (by omega)]
  rfl
theorem snocQ_same (q : Nat → Value) (n : Nat) : snocQ q n (q n) = q := by
  funext i; unfold snocQ; split
  · rename_i h; rw [h]
  · rfl
/-- What a round of few keeps. -/
structure FwI (w : World) (ms : List Msg) (q : Nat → Option Addr × Nat) (j : Nat) (v : Value) (wr : World) : Prop where
  own : wr.ownsRow w.heap.size 40 23 v (fewJ ms j).length (msCells (fewJ ms j) (fewQ ms q))
  le : j ≤ min ms.length 20
  bel : Below w.heap.size w wr
theorem FwI.form {w : World} {ms : List Msg} {q : Nat → Option Addr × Nat} {j : Nat} {v : Value} {wr : World} (h : FwI w ms q j v wr) : ∃ p cap, v = .slice p j cap ∧ j ≤ cap ∧ cap ≤ maxLen := by
  have hl := fewJ_len ms (j := j) (by have := h.le; omega)
  rcases h.own.2 with ⟨rfl, e⟩ | ⟨g, cap, cur, rfl, hb, hg, h1, h2, h3, h4⟩
  · exact ⟨none, 0, by rw [← hl, e], by omega, by unfold maxLen; omega⟩
  · exact ⟨_, cap, by rw [hl], by omega, h2⟩
theorem FwI.done {w : World} {ms : List Msg} {q : Nat → Option Addr × Nat} {pl : Option Addr} {capl : Nat} {v : Value} {wr : World} (h : FwI w ms q (min ms.length 20) v wr) (ha : ArgM w pl capl ms q) : ∃ p cap, v = .slice p (fewM ms).length cap ∧ ArgM wr p cap (fewM ms) (fun i => unq (fewQ ms q i)) := by
  have he : fewJ ms (min ms.length 20) = fewM ms := by
    unfold fewJ fewM
    congr 1
    rw [Nat.min_comm, ← List.take_take, List.take_length]
  have ho := h.own
  rw [he] at ho
  have hl : (fewM ms).length = min ms.length 20 := by rw [← he, fewJ_len _ (by omega)]
  refine argM_own ho (fun i hi => ?_)
  have hi2 : i < ms.length := by omega
  have hmg : mg (fewM ms) i = cutM 1100 (mg ms i) := by rw [← he]; exact fewJ_mg _ (by omega) (by omega)
  rw [hmg]
  exact ⟨_, _, rfl, ((ha.bytes i hi2).keep h.bel).cut 1100, cutM_ok (ha.ok i hi2) 1100⟩
set_option maxRecDepth 100000 in
set_option maxHeartbeats 4000000 in
theorem fewF (pl : Option Addr) (capl : Nat) (ms : List Msg) (q : Nat → Option Addr × Nat) (w : World) (h : ArgM w pl capl ms q) :
    Calls Try.prog 13 #[.slice pl ms.length capl] w fun e w' => (∃ p cap, e = .returned (.slice p (fewM ms).length cap) ∧ ArgM w' p cap (fewM ms) (fun i => unq (fewQ ms q i))) ∧ Below w.heap.size w w' := by
  have hle := h.le; have hmost := h.most
  unfold maxLen at hmost
  go_enter Try.func13, Try.ntmps13
  go_wp2_with fail
  go_loopw [3, 4] (fun l i wr => ∃ (j : Nat) (v : Value), i = .int .i64 (j : Int) ∧ l = v ∧ FwI w ms q j v wr) (fun _ i _ => 20 - (intOf i).toNat)
  case atStart => exact ⟨0, _, rfl, rfl, ⟨World.ownsRow_nil _ _ _ _, Nat.zero_le _, Below.refl _ _⟩⟩
  case round =>
    obtain ⟨j, v, rfl, hlv, hI⟩ := hrel
    obtain ⟨p0, c0, hvl, hll, hml⟩ := hI.form
    subst hvl
    subst hlv
    unfold maxLen at hml
    by_cases hlt : j < min ms.length 20
    · have h1 : j < ms.length := by omega
      have h20 : j < 20 := by omega
      have hA := h.keep hI.bel
      obtain ⟨b, o, rfl, hbl, hc⟩ := hA.at h1
      have hcj := hc j h1
      have hbj := hA.bytes j h1
      have hstep : ∀ v' w', w'.ownsRow w.heap.size 40 23 v' ((fewJ ms j).length + 1) (msCells (fewJ ms j ++ [cutM 1100 (mg ms j)]) (snocQ (fewQ ms q) (fewJ ms j).length (fewQ ms q j))) → Below w.heap.size w w' → FwI w ms q (j + 1) v' w' := fun v' w' ho hb => by
        rw [fewJ_len ms (by omega), snocQ_same, ← fewJ_succ ms h1] at ho
        exact ⟨by rw [fewJ_len ms h1]; exact ho, by omega, hb⟩
      have hpush := fun (u : World) => own_push (w := u) (B := w.heap.size) (v := .slice p0 j c0) (ms := fewJ ms j) (q := fewQ ms q) (m := cutM 1100 (mg ms j)) (p := (q j).1) (n := (cutM 1100 (mg ms j)).bytes.length) (c := (q j).2) 22
      have hlen := fewJ_len ms (j := j) (by omega)
      have hown := hI.own
      have hlm := cutM_len (mg ms j) 1100
      unfold mgC at hcj
      unfold fewQ at hstep
      have hC : ∀ v, msgC (cutM 1100 (mg ms j)) v = msgC (mg ms j) v := fun v => rfl
      simp only [hC] at hpush
      generalize fewJ ms j = fs at *
      generalize hMd : (cutM 1100 (mg ms j)).bytes.length = M at *
      have hble := hbj.le; have hbm := hbj.most
      unfold maxLen at hbm
      generalize mg ms j = m at *
      generalize q j = qj at *
      obtain ⟨p, cap⟩ := qj
      simp only at hcj hpush hstep hble hbm
      clear hbj hC hc
      have hcase : ((1100 : Int) < (m.bytes.length : Int) ∧ M = 1100) ∨ ((m.bytes.length : Int) ≤ 1100 ∧ m.bytes.length = M) := by omega
      have hcm : ∀ v, msgC m v = #[.int .i64 m.kind, .int .u16 m.seq, .int .u16 m.cmd.seq, .int .u8 m.cmd.but, .int .i8 m.cmd.dx, .int .i8 m.cmd.dy, .int .i64 m.cmd.tk, .int .u16 m.prov, .int .i64 m.id, .int .i64 m.shot, .int .i64 m.dir.x, .int .i64 m.dir.y, .int .i64 m.dir.z, .int .i64 m.why, .int .i64 m.pos.x, .int .i64 m.pos.y, .int .i64 m.pos.z, .int .i64 m.vel.x, .int .i64 m.vel.y, .int .i64 m.vel.z, .int .u32 m.tick, .int .u32 m.base, v] := fun v => rfl
      simp only [hcm] at hcj hpush
      clear hcm hMd hlm
      generalize m.bytes.length = L at *
      have hz := hI.bel.size
      have hB := hI.bel
      rcases hcase with ⟨k1, rfl⟩ | ⟨k1, rfl⟩
      · have A2 := Bq.new wr 40 #[.int .i64 m.kind, .int .u16 m.seq, .int .u16 m.cmd.seq, .int .u8 m.cmd.but, .int .i8 m.cmd.dx, .int .i8 m.cmd.dy, .int .i64 m.cmd.tk, .int .u16 m.prov, .int .i64 m.id, .int .i64 m.shot, .int .i64 m.dir.x, .int .i64 m.dir.y, .int .i64 m.dir.z, .int .i64 m.why, .int .i64 m.pos.x, .int .i64 m.pos.y, .int .i64 m.pos.z, .int .i64 m.vel.x, .int .i64 m.vel.y, .int .i64 m.vel.z, .int .u32 m.tick, .int .u32 m.base, .slice p 1100 cap]
        have hF0 : Below wr.heap.size wr (wr.alloc (.cells #[.int .i64 m.kind, .int .u16 m.seq, .int .u16 m.cmd.seq, .int .u8 m.cmd.but, .int .i8 m.cmd.dx, .int .i8 m.cmd.dy, .int .i64 m.cmd.tk, .int .u16 m.prov, .int .i64 m.id, .int .i64 m.shot, .int .i64 m.dir.x, .int .i64 m.dir.y, .int .i64 m.dir.z, .int .i64 m.why, .int .i64 m.pos.x, .int .i64 m.pos.y, .int .i64 m.pos.z, .int .i64 m.vel.x, .int .i64 m.vel.y, .int .i64 m.vel.z, .int .u32 m.tick, .int .u32 m.base, .slice p 1100 cap] 40)) := (Below.refl _ _).alloc (Nat.le_refl _) _
        have hz3 : (wr.alloc (.cells #[.int .i64 m.kind, .int .u16 m.seq, .int .u16 m.cmd.seq, .int .u8 m.cmd.but, .int .i8 m.cmd.dx, .int .i8 m.cmd.dy, .int .i64 m.cmd.tk, .int .u16 m.prov, .int .i64 m.id, .int .i64 m.shot, .int .i64 m.dir.x, .int .i64 m.dir.y, .int .i64 m.dir.z, .int .i64 m.why, .int .i64 m.pos.x, .int .i64 m.pos.y, .int .i64 m.pos.z, .int .i64 m.vel.x, .int .i64 m.vel.y, .int .i64 m.vel.z, .int .u32 m.tick, .int .u32 m.base, .slice p 1100 cap] 40)).heap.size = wr.heap.size + 1 := by simp
        obtain ⟨v', w', hrun, ho', hF'⟩ := hpush (wr.alloc (.cells #[.int .i64 m.kind, .int .u16 m.seq, .int .u16 m.cmd.seq, .int .u8 m.cmd.but, .int .i8 m.cmd.dx, .int .i8 m.cmd.dy, .int .i64 m.cmd.tk, .int .u16 m.prov, .int .i64 m.id, .int .i64 m.shot, .int .i64 m.dir.x, .int .i64 m.dir.y, .int .i64 m.dir.z, .int .i64 m.why, .int .i64 m.pos.x, .int .i64 m.pos.y, .int .i64 m.pos.z, .int .i64 m.vel.x, .int .i64 m.vel.y, .int .i64 m.vel.z, .int .u32 m.tick, .int .u32 m.base, .slice p 1100 cap] 40)) (owns_same hown (fun k hk => hF0.block k (hown.lt k hk).2)) (by rw [hz3]; omega) (by omega)
        rw [hz3] at hrun
        have hB' : Below w.heap.size w w' := (hB.trans (hF0.mono hz)).trans (hF'.below (by rw [hz3]; omega) (fun k hk => (hown.lt k hk).1))
        have HN := hid (hstep v' w' ho' hB')
        have HRUN := hid hrun
        have HA2 := hid A2; have HC := hid hcj
        clear A2 hF0 hz3 hrun ho' hF' hB' hpush hstep hown hcj hB hI
        go_wp2_with (first
          | (refine wpList_load_at rfl _ rfl b (o + j * 23) rfl _ rfl HC.out ?_)
          | (refine wpList_store_row rfl 40 _ _ rfl wr.heap.size #[.int .i64 m.kind, .int .u16 m.seq, .int .u16 m.cmd.seq, .int .u8 m.cmd.but, .int .i8 m.cmd.dx, .int .i8 m.cmd.dy, .int .i64 m.cmd.tk, .int .u16 m.prov, .int .i64 m.id, .int .i64 m.shot, .int .i64 m.dir.x, .int .i64 m.dir.y, .int .i64 m.dir.z, .int .i64 m.why, .int .i64 m.pos.x, .int .i64 m.pos.y, .int .i64 m.pos.z, .int .i64 m.vel.x, .int .i64 m.vel.y, .int .i64 m.vel.z, .int .u32 m.tick, .int .u32 m.base, .slice p L cap] rfl rfl 40 #[.int .i64 0, .int .u16 0, .int .u16 0, .int .u8 0, .int .i8 0, .int .i8 0, .int .i64 0, .int .u16 0, .int .i64 0, .int .i64 0, .int .i64 0, .int .i64 0, .int .i64 0, .int .i64 0, .int .i64 0, .int .i64 0, .int .i64 0, .int .i64 0, .int .i64 0, .int .i64 0, .int .u32 0, .int .u32 0, .slice none 0 0] (heap_alloc_new wr _) size_msg rfl one23 ?_; rw [World.setRow_alloc_new])
          | (refine wpList_load_row rfl 40 _ rfl wr.heap.size rfl 40 #[.int .i64 m.kind, .int .u16 m.seq, .int .u16 m.cmd.seq, .int .u8 m.cmd.but, .int .i8 m.cmd.dx, .int .i8 m.cmd.dy, .int .i64 m.cmd.tk, .int .u16 m.prov, .int .i64 m.id, .int .i64 m.shot, .int .i64 m.dir.x, .int .i64 m.dir.y, .int .i64 m.dir.z, .int .i64 m.why, .int .i64 m.pos.x, .int .i64 m.pos.y, .int .i64 m.pos.z, .int .i64 m.vel.x, .int .i64 m.vel.y, .int .i64 m.vel.z, .int .u32 m.tick, .int .u32 m.base, .slice p 1100 cap] (0, 0) _ HA2.out.obj Try.underlying40 rfl size_msg ?_)
          | (at_builtin; refine Lib.wpList_append_run _ rfl _ _ _ _ rfl _ _ rfl rfl _ _ HRUN.out ?_))
        go_roundw
        case rel => exact ⟨j + 1, _, by go_num, rfl, HN.out⟩
        case measure => simp [intOf]; omega
      · have A2 := Bq.new wr 40 #[.int .i64 m.kind, .int .u16 m.seq, .int .u16 m.cmd.seq, .int .u8 m.cmd.but, .int .i8 m.cmd.dx, .int .i8 m.cmd.dy, .int .i64 m.cmd.tk, .int .u16 m.prov, .int .i64 m.id, .int .i64 m.shot, .int .i64 m.dir.x, .int .i64 m.dir.y, .int .i64 m.dir.z, .int .i64 m.why, .int .i64 m.pos.x, .int .i64 m.pos.y, .int .i64 m.pos.z, .int .i64 m.vel.x, .int .i64 m.vel.y, .int .i64 m.vel.z, .int .u32 m.tick, .int .u32 m.base, .slice p L cap]
        have hF0 : Below wr.heap.size wr (wr.alloc (.cells #[.int .i64 m.kind, .int .u16 m.seq, .int .u16 m.cmd.seq, .int .u8 m.cmd.but, .int .i8 m.cmd.dx, .int .i8 m.cmd.dy, .int .i64 m.cmd.tk, .int .u16 m.prov, .int .i64 m.id, .int .i64 m.shot, .int .i64 m.dir.x, .int .i64 m.dir.y, .int .i64 m.dir.z, .int .i64 m.why, .int .i64 m.pos.x, .int .i64 m.pos.y, .int .i64 m.pos.z, .int .i64 m.vel.x, .int .i64 m.vel.y, .int .i64 m.vel.z, .int .u32 m.tick, .int .u32 m.base, .slice p L cap] 40)) := (Below.refl _ _).alloc (Nat.le_refl _) _
        have hz3 : (wr.alloc (.cells #[.int .i64 m.kind, .int .u16 m.seq, .int .u16 m.cmd.seq, .int .u8 m.cmd.but, .int .i8 m.cmd.dx, .int .i8 m.cmd.dy, .int .i64 m.cmd.tk, .int .u16 m.prov, .int .i64 m.id, .int .i64 m.shot, .int .i64 m.dir.x, .int .i64 m.dir.y, .int .i64 m.dir.z, .int .i64 m.why, .int .i64 m.pos.x, .int .i64 m.pos.y, .int .i64 m.pos.z, .int .i64 m.vel.x, .int .i64 m.vel.y, .int .i64 m.vel.z, .int .u32 m.tick, .int .u32 m.base, .slice p L cap] 40)).heap.size = wr.heap.size + 1 := by simp
        obtain ⟨v', w', hrun, ho', hF'⟩ := hpush (wr.alloc (.cells #[.int .i64 m.kind, .int .u16 m.seq, .int .u16 m.cmd.seq, .int .u8 m.cmd.but, .int .i8 m.cmd.dx, .int .i8 m.cmd.dy, .int .i64 m.cmd.tk, .int .u16 m.prov, .int .i64 m.id, .int .i64 m.shot, .int .i64 m.dir.x, .int .i64 m.dir.y, .int .i64 m.dir.z, .int .i64 m.why, .int .i64 m.pos.x, .int .i64 m.pos.y, .int .i64 m.pos.z, .int .i64 m.vel.x, .int .i64 m.vel.y, .int .i64 m.vel.z, .int .u32 m.tick, .int .u32 m.base, .slice p L cap] 40)) (owns_same hown (fun k hk => hF0.block k (hown.lt k hk).2)) (by rw [hz3]; omega) (by omega)
        rw [hz3] at hrun
        have hB' : Below w.heap.size w w' := (hB.trans (hF0.mono hz)).trans (hF'.below (by rw [hz3]; omega) (fun k hk => (hown.lt k hk).1))
        have HN := hid (hstep v' w' ho' hB')
        have HRUN := hid hrun
        have HA2 := hid A2; have HC := hid hcj
        clear A2 hF0 hz3 hrun ho' hF' hB' hpush hstep hown hcj hB hI
        go_wp2_with (first
          | (refine wpList_load_at rfl _ rfl b (o + j * 23) rfl _ rfl HC.out ?_)
          | (refine wpList_store_row rfl 40 _ _ rfl wr.heap.size #[.int .i64 m.kind, .int .u16 m.seq, .int .u16 m.cmd.seq, .int .u8 m.cmd.but, .int .i8 m.cmd.dx, .int .i8 m.cmd.dy, .int .i64 m.cmd.tk, .int .u16 m.prov, .int .i64 m.id, .int .i64 m.shot, .int .i64 m.dir.x, .int .i64 m.dir.y, .int .i64 m.dir.z, .int .i64 m.why, .int .i64 m.pos.x, .int .i64 m.pos.y, .int .i64 m.pos.z, .int .i64 m.vel.x, .int .i64 m.vel.y, .int .i64 m.vel.z, .int .u32 m.tick, .int .u32 m.base, .slice p L cap] rfl rfl 40 #[.int .i64 0, .int .u16 0, .int .u16 0, .int .u8 0, .int .i8 0, .int .i8 0, .int .i64 0, .int .u16 0, .int .i64 0, .int .i64 0, .int .i64 0, .int .i64 0, .int .i64 0, .int .i64 0, .int .i64 0, .int .i64 0, .int .i64 0, .int .i64 0, .int .i64 0, .int .i64 0, .int .u32 0, .int .u32 0, .slice none 0 0] (heap_alloc_new wr _) size_msg rfl one23 ?_; rw [World.setRow_alloc_new])
          | (refine wpList_load_row rfl 40 _ rfl wr.heap.size rfl 40 #[.int .i64 m.kind, .int .u16 m.seq, .int .u16 m.cmd.seq, .int .u8 m.cmd.but, .int .i8 m.cmd.dx, .int .i8 m.cmd.dy, .int .i64 m.cmd.tk, .int .u16 m.prov, .int .i64 m.id, .int .i64 m.shot, .int .i64 m.dir.x, .int .i64 m.dir.y, .int .i64 m.dir.z, .int .i64 m.why, .int .i64 m.pos.x, .int .i64 m.pos.y, .int .i64 m.pos.z, .int .i64 m.vel.x, .int .i64 m.vel.y, .int .i64 m.vel.z, .int .u32 m.tick, .int .u32 m.base, .slice p L cap] (0, 0) _ HA2.out.obj Try.underlying40 rfl size_msg ?_)
          | (at_builtin; refine Lib.wpList_append_run _ rfl _ _ _ _ rfl _ _ rfl rfl _ _ HRUN.out ?_))
        go_roundw
        case rel => exact ⟨j + 1, _, by go_num, rfl, HN.out⟩
        case measure => simp [intOf]; omega
    · obtain ⟨N, hN⟩ : ∃ N, min ms.length 20 = N := ⟨_, rfl⟩
      obtain rfl : j = N := by have := hI.le; omega
      rw [← hN] at hI
      obtain ⟨p1, c1, hv1, hA1⟩ := hI.done h
      have hB := hI.bel
      injection hv1 with e1 e2 e3
      subst e1 e3
      have Hfl : Hid ((fewM ms).length = j) := hid (by rw [← e2, hN])
      have HA1 := hid hA1; have HB := hid hB
      clear hA1 hB hI e2
      by_cases h1 : j < ms.length
      · have h2 : ¬ (j : Int) < 20 := by omega
        go_wp2_with fail
        go_ret
        refine ⟨⟨p0, c0, ?_, HA1.out⟩, HB.out⟩
        rw [Hfl.out]; rfl
      · have h2 : ¬ (j : Int) < (ms.length : Int) := by omega
        go_wp2_with fail
        go_ret
        refine ⟨⟨p0, c0, ?_, HA1.out⟩, HB.out⟩
        rw [Hfl.out]; rfl
end Go.Proofs.Ytkmiogaklmgnkaa
