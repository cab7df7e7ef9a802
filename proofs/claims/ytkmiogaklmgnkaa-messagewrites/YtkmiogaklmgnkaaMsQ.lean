/- Layer 5 (message): the bytes of messages. -/
import Derived.Test.YtkmiogaklmgnkaaMsL
namespace Go.Proofs.Ytkmiogaklmgnkaa
open Go.RowKit Go.Shelf
set_option linter.unusedVariables false
set_option linter.unusedSimpArgs false
attribute [local go_sem ↓] Go.wp_at_zero Go.wp_at_succ

/-- How many bits a message's fields have. -/
def sizeK (m : Msg) : Nat := if m.kind = 2 then 37 else if m.kind = 3 then 71 else if m.kind = 6 then 208 else if m.kind = 7 then 47 else if m.kind = 5 then 31 else if m.kind = 8 then 20 else if m.kind = 9 then 74 + 8 * m.bytes.length else 0
theorem loadGo_enc (bs : List Nat) (k : Nat) (acc : List Nat) : (loadGo bs k acc).enc.length = 8 * k := by
  induction k generalizing bs acc with
  | zero => rfl
  | succ k ih => rw [loadGo, Pg.enc, List.length_append, bitsN_length, ih]; simp only []; omega
theorem carr_enc (m : Msg) : (carr m).enc.length = 4 + sizeK m := by
  show (bitsN m.kind rKind ++ (fieldsP m m.kind).enc).length = _
  rw [List.length_append, bitsN_length]
  congr 1
  unfold fieldsP sizeK
  split
  · rw [Pg.enc_bind]; simp only [cmdP, Pg.enc, List.length_append, bitsN_length, List.length_nil]
  split
  · simp only [Pg.enc, Pg.enc_bind, vecP, List.length_append, bitsN_length, List.length_nil]
  split
  · simp only [Pg.enc, Pg.enc_bind, vecP, List.length_append, bitsN_length, List.length_nil]
  split
  · simp only [Pg.enc, List.length_append, bitsN_length, List.length_nil]
  split
  · simp only [Pg.enc, List.length_append, bitsN_length, List.length_nil]
  split
  · simp only [Pg.enc, List.length_append, bitsN_length, List.length_nil]
  split
  · simp only [Pg.enc, Pg.enc_bind, loadP, List.length_append, bitsN_length, List.length_nil, loadGo_enc, Int.toNat_natCast]; omega
  · rfl
theorem sizeK_le {m : Msg} (h : m.bytes.length ≤ 1023) : sizeK m ≤ 8258 := by
  unfold sizeK
  repeat' split
  all_goals omega
/-- The bits of messages, of the first j. -/
def encJ (ms : List Msg) (j : Nat) : List Bool := bitsN (ms.length : Nat) rCnt ++ (ms.take j).flatMap fun m => (carr m).enc
theorem encJ_succ (ms : List Msg) {j : Nat} (hj : j < ms.length) : encJ ms (j + 1) = encJ ms j ++ (carr (mg ms j)).enc := by
  unfold encJ
  rw [List.take_add_one, List.flatMap_append, List.append_assoc]
  congr 2
  unfold mg
  rw [List.getD_eq_getElem?_getD, List.getElem?_eq_getElem hj]
  simp
theorem encJ_len (ms : List Msg) (hr : ∀ m ∈ ms, m.bytes.length ≤ 1023) (j : Nat) : (encJ ms j).length ≤ 5 + j * 8262 := by
  unfold encJ
  rw [List.length_append, bitsN_length]
  have : ∀ (l : List Msg), (∀ m ∈ l, m.bytes.length ≤ 1023) → (l.flatMap fun m => (carr m).enc).length ≤ l.length * 8262 := by
    intro l
    induction l with
    | nil => intro _; simp
    | cons m l ih =>
      intro h
      rw [List.flatMap_cons, List.length_append, carr_enc]
      have h1 := sizeK_le (h m (by simp))
      have h2 := ih (fun x hx => h x (by simp [hx]))
      simp only [List.length_cons, Nat.add_mul, Nat.one_mul]
      omega
  have h1 := this (ms.take j) (fun m hm => hr m (List.mem_of_mem_take hm))
  have h2 : (ms.take j).length ≤ j := by rw [List.length_take]; omega
  have h3 : (ms.take j).length * 8262 ≤ j * 8262 := Nat.mul_le_mul_right _ h2
  show 5 + _ ≤ _
  omega
/-- The error of Encode. -/
def encE (ms : List Msg) : Int := if ms.all rgtB = true then if ms.length ≤ 16 then if (encJ ms ms.length).length ≤ 8192 then 0 else 5 else 5 else 1
theorem enc_all {ms : List Msg} (hl : ms.length ≤ 16) (hr : ms.all rgtB = true) : (allP ms).enc = encJ ms ms.length := by
  rw [(allP_val hl (fun m hm => (rgtB_iff m).1 (List.all_eq_true.1 hr m hm))).2.2]
  unfold encJ
  rw [List.take_length]
/-- What Encode answers. -/
def EncP (w : World) (bits : List Bool) (E : Int) (e : Ending) (w' : World) : Prop := (∃ v ys, e = .returned (.tuple #[v, .int .i64 E]) ∧ Row w' w.heap.size v ys ∧ (E = 0 → ∃ f, Packs ys f bits) ∧ (E ≠ 0 → ys = [])) ∧ Below w.heap.size w w'
set_option maxRecDepth 100000 in
set_option maxHeartbeats 2000000 in
theorem encodeF (p : Option Addr) (cap : Nat) (ms : List Msg) (q : Nat → Option Addr × Nat) (w : World) (h : ArgM w p cap ms q) :
    Calls Try.prog 14 #[.slice p ms.length cap] w fun e w' => EncP w (encJ ms ms.length) (encE ms) e w' := by
  have hle := h.le; have hmost := h.most
  unfold maxLen at hmost
  have hC := containsF p cap ms q w h
  cases hr : ms.all rgtB
  · have hE : encE ms = 1 := by unfold encE; rw [hr]; rfl
    rw [hE]
    rw [hr] at hC
    clear hE hr h
    go_enter Try.func14, Try.ntmps14
    go_wp2_with fail
    refine hC.mono ?_
    rintro e u ⟨rfl, hb⟩
    dsimp only
    have HB := hid hb
    clear hb hC
    go_wp2_with fail
    go_returns
    exact ⟨⟨_, [], rfl, Row.nil _ _, (fun e => by cases e), fun _ => rfl⟩, HB.out⟩
  rw [hr] at hC
  by_cases hl : ms.length ≤ 16
  rotate_left
  · have hE : encE ms = 5 := by unfold encE; rw [hr, if_pos rfl, if_neg hl]
    rw [hE]
    clear hE hr h
    go_enter Try.func14, Try.ntmps14
    go_wp2_with fail
    refine hC.mono ?_
    rintro e u ⟨rfl, hb⟩
    dsimp only
    have HB := hid hb
    clear hb hC
    have hlI : ¬ (ms.length : Int) ≤ 16 := by omega
    go_wp2_with fail
    go_returns
    exact ⟨⟨_, [], rfl, Row.nil _ _, (fun e => by cases e), fun _ => rfl⟩, HB.out⟩
  have hrg : ∀ i, i < ms.length → Rgt (mg ms i) := fun i hi => (rgtB_iff _).1 ((all_mg _ _).1 hr i hi)
  have hby : ∀ m ∈ ms, m.bytes.length ≤ 1023 := fun m hm => ((rgtB_iff m).1 (List.all_eq_true.1 hr m hm)).ok.2
  have hlen := encJ_len ms hby
  obtain ⟨E, hE⟩ : ∃ E, encE ms = E := ⟨_, rfl⟩
  have hE2 : E = if (encJ ms ms.length).length ≤ 8192 then 0 else 5 := by rw [← hE]; unfold encE; rw [if_pos hr, if_pos hl]
  rw [hE]
  have HE := hid hE2
  clear hE hE2
  have hCnt := countF
  go_enter Try.func14, Try.ntmps14
  go_wp2_with fail
  refine hC.mono ?_
  rintro e u ⟨rfl, hb⟩
  dsimp only
  have HB := hid hb
  clear hb hC
  have hlI : (ms.length : Int) ≤ 16 := by omega
  go_wp2_with fail
  have hW0 := writer_new u
  refine (hCnt _).mono ?_
  rintro e u1 ⟨rfl, hb1⟩
  dsimp only
  have HW1 := hid (hW0.below hb1)
  have HB1 := hid (btrans (HB.out.alloc HB.out.size (.cells #[.slice none 0 0, .int .i64 0] 59)) hb1)
  have hz1 : u.heap.size < u1.heap.size := by have := hb1.size; simp at this; omega
  have hzu := HB.out.size
  clear hW0 hb1 hCnt HB
  obtain ⟨B, hB⟩ : ∃ B, u.heap.size = B := ⟨_, rfl⟩
  rw [hB] at HW1 hzu hz1
  simp only [hB]
  have hHB := hid hB
  clear hB
  unfold rmV
  go_wp2_with fail
  have hN := wrNum (ms.length : Nat) rCnt HW1.out (by simp)
  unfold rmV at hN
  refine hN.mono ?_
  rintro e u2 ⟨rfl, S2, hW2, hF2, hS2⟩
  dsimp only
  have hT2 : ∀ k, S2 k → w.heap.size ≤ k := fun k hk => by
    rcases hS2 k hk with e | e
    · omega
    · have := HB1.out.size; omega
  have HW2 : Hid (WrAt u2 S2 B (encJ ms 0)) := hid (by unfold encJ; simpa using hW2)
  have HB2 := hid (HB1.out.trans (hF2.below HB1.out.size (fun k hk => by omega)))
  clear hN hW2 hF2 hS2 HW1 HB1
  go_wp2_with fail
  go_loopw [22] (fun i wr => ∃ (j : Nat) (S : Nat → Prop), i = .int .i64 (j : Int) ∧ j ≤ ms.length ∧ WrAt wr S B (encJ ms j) ∧ (∀ k, S k → w.heap.size ≤ k) ∧ Below w.heap.size w wr) (fun i _ => ms.length - (intOf i).toNat)
  case atStart => exact ⟨0, S2, rfl, Nat.zero_le _, HW2.out, hT2, HB2.out⟩
  case round =>
    obtain ⟨j, S, rfl, hj, hW, hT, hb⟩ := hrel
    by_cases hlt : j < ms.length
    · have hA := h.keep hb
      obtain ⟨b, o, rfl, hbl, hc⟩ := hA.at hlt
      have hcj := hc j hlt
      have hsz : (mgC ms q j).size = 23 := mgC_size ms q j
      have hone : (mgC ms q j).all (fun v => v.oneCell') = true := one23
      have hsm : (Try.prog.info? 40).map (·.size) = some (mgC ms q j).size := by rw [hsz]; exact size_msg
      have hle2 : (encJ ms (j + 1)).length ≤ 700000 := by have := hlen (j + 1); omega
      have hal := fun (u : World) (S : Nat → Prop) (hW : WrAt u S B (encJ ms j)) (ha) (hd) => carriedF (wrW B) (mg ms j) (q j).1 (q j).2 u hW (Pg.wr_mono _ _ _ (by rw [← encJ_succ ms hlt]; exact hle2)) (hrg j hlt).ok.1 (.inl (by have := (hrg j hlt).ok.2; omega)) ha hd
      dsimp only [wrW] at hal
      simp only [Pg.run_wr, ← encJ_succ ms hlt] at hal
      have hm1 : msgC (mg ms j) (.slice (q j).1 (mg ms j).bytes.length (q j).2) = mgC ms q j := rfl
      rw [hm1] at hal
      have hby2 : (mg ms j).bytes.length ≠ 0 → ∀ k o, (q j).1 = some ⟨k, o, none⟩ → k < w.heap.size := fun h0 k o hp => by
        rcases (h.bytes j hlt).cells with e | ⟨b, o', hp', hlt, _⟩
        · exact (h0 e).elim
        · rw [hp] at hp'; cases hp'; exact hlt
      have HAb := hid (hA.bytes j hlt)
      generalize mgC ms q j = cs at *
      have HW := hid hW; have HB := hid hb; have HC := hid hcj; have HAL := hid hal; have HS := hid hone; have HM := hid hsm
      clear hA hc hcj hb hm1 hal hW hone hsm
      go_wp2_with (first
        | (refine wpList_load_at rfl _ rfl b (o + j * 23) rfl cs hsz HC.out ?_)
        | (refine wpList_store_row rfl 40 _ _ rfl wr.heap.size cs rfl rfl 40 #[.int .i64 0, .int .u16 0, .int .u16 0, .int .u8 0, .int .i8 0, .int .i8 0, .int .i64 0, .int .u16 0, .int .i64 0, .int .i64 0, .int .i64 0, .int .i64 0, .int .i64 0, .int .i64 0, .int .i64 0, .int .i64 0, .int .i64 0, .int .i64 0, .int .i64 0, .int .i64 0, .int .u32 0, .int .u32 0, .slice none 0 0] (heap_alloc_new wr _) HM.out (by rw [hsz]; rfl) HS.out ?_; rw [World.setRow_alloc_new])
        | (refine wpList_load_row rfl 40 _ rfl wr.heap.size rfl 40 cs (0, 0) _ (heap_alloc_new wr _) Try.underlying40 rfl HM.out ?_))
      have hB3 := (Below.refl wr.heap.size wr).alloc (Nat.le_refl _) (.cells cs 40)
      refine (HAL.out _ S (HW.out.below hB3) (HAb.out.keep hB3) (fun h0 k o hp e => by have := hby2 h0 k o hp; have := hT k e; omega)).mono ?_
      rintro e u3 ⟨v, rfl, _, S3, hW3, hF3, hS3, _⟩
      dsimp only
      have hz3 := HB.out.size
      have HW3 := hid hW3
      have HT3 : Hid (∀ k, S3 k → w.heap.size ≤ k) := hid (fun k hk => by
        rcases hS3 k hk with e | e
        · exact hT k e
        · simp at e; omega)
      have HB3 := hid ((HB.out.alloc HB.out.size (.cells cs 40)).trans (hF3.below (by simp; omega) hT))
      clear hW3 hF3 hS3 HW HB HC HAL HS HM hB3
      go_wp2_with fail
      go_roundw
      case rel => exact ⟨j + 1, S3, by go_num, by omega, HW3.out, HT3.out, HB3.out⟩
      case measure => simp [intOf]; omega
    · obtain rfl : j = ms.length := by omega
      have hBy := bytesW S B (encJ ms ms.length) wr hW (by have := hlen ms.length; omega)
      have HB := hid hb
      clear hW hb h
      go_wp2_with fail
      refine hBy.mono ?_
      rintro e u3 ⟨⟨v, ys, f, rfl, hrow, hp⟩, hb3⟩
      dsimp only
      obtain ⟨p3, c3, rfl, ha3⟩ := hrow.arg
      have hl3 := hp.len
      have hf3 := hp.few
      have HR := hid (hrow.base (C := w.heap.size) HB.out.size); have HP := hid hp; have HB3 := hid (btrans HB.out hb3)
      have hle3 := ha3.le; have hm3 := ha3.most
      unfold maxLen at hm3
      clear hrow hp hb3 hBy HB ha3
      by_cases h8 : ys.length ≤ 1024
      · have hI : (ys.length : Int) ≤ 1024 := by omega
        obtain rfl : E = 0 := by rw [HE.out, if_pos (by omega)]
        go_wp2_with fail
        go_returns
        exact ⟨⟨_, ys, rfl, HR.out, (fun _ => ⟨f, HP.out⟩), fun e => (e rfl).elim⟩, HB3.out⟩
      · have hI : ¬ (ys.length : Int) ≤ 1024 := by omega
        obtain rfl : E = 5 := by rw [HE.out, if_neg (by omega)]
        go_wp2_with fail
        go_returns
        exact ⟨⟨_, [], rfl, Row.nil _ _, (fun e => by cases e), fun _ => rfl⟩, HB3.out⟩
end Go.Proofs.Ytkmiogaklmgnkaa
