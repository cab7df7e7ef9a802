/- Layer 5 (message): the document's reader: any message. -/
import Derived.Test.YtneaanmchachlaaNvB
import Derived.Test.YtneaanmchachlaaNvC
import Derived.Test.YtneaanmchachlaaNvD
import Derived.Test.YtneaanmchachlaaMtA
import Derived.Test.YtneaanmchachlaaMsW
import Derived.Lib.AppendZeros
namespace Go.Proofs.Ytneaanmchachlaa
open Go.RowKit Go.Shelf
set_option linter.unusedVariables false

theorem messageX {w : World} {b : Nat} {l : List Bool} (h : RX w b (l, 0)) :
    Calls Try.prog 38 #[.pointer (some ⟨b, 0, none⟩)] w fun e w' => MXP w b (l, 0) e w' := by
  obtain ⟨k, hk⟩ : ∃ k : Nat, Pg.rdx false (tkv (l, 0) 4) = (k : Int) := ⟨val (tkv (l, 0) 4), rfl⟩
  rcases (show k = 0 ∨ k = 1 ∨ k = 2 ∨ k = 3 ∨ k = 4 ∨ k = 5 ∨ k = 6 ∨ k = 7 ∨ k = 8 ∨ k = 9 ∨ 9 < k by omega) with rfl | rfl | rfl | rfl | rfl | rfl | rfl | rfl | rfl | rfl | h9
  · exact messageX0 h hk
  · exact messageX1 h hk
  · exact messageX2 h hk
  · exact messageX3 h hk
  · exact messageX4 h hk
  · exact messageX5 h hk
  · exact messageX6 h hk
  · exact messageX7 h hk
  · exact messageX8 h hk
  · exact messageX9 h hk
  · exact messageXk h hk (by omega)
/-- No messages, in a row of one's own. -/
theorem MsAt.empty (w : World) : MsAt (w.alloc (.cells #[] 40)) w.heap.size (fun k => k = w.heap.size) (.slice (some ⟨w.heap.size, 0, none⟩) 0 0) [] (fun _ => .slice none 0 0) :=
  ⟨⟨rfl, .inr ⟨w.heap.size, 0, #[], rfl, Nat.le_refl _, heap_alloc_new w _, Nat.le_refl _, by unfold maxLen; omega, by simp, rfl⟩⟩, (fun i hi => absurd hi (Nat.not_lt_zero i)), (fun k hk => by have e : w.heap.size = k := Option.some.inj hk; exact e.symm), (fun i hi => absurd hi (Nat.not_lt_zero i)), (fun k hk => by subst hk; simp), fun i hi => absurd hi (Nat.not_lt_zero i)⟩
/-- What a round of the document's Decode keeps. -/
structure DX (w : World) (B b N : Nat) (t0 : List Bool × Int) (j : Nat) (v : Value) (ms : List Msg) (q : Nat → Value) (X : Nat → Prop) (t : List Bool × Int) (wr : World) : Prop where
  at_ : MsAt wr B X v ms q
  len : ms.length = j
  le : j ≤ N
  rx : RX wr b t
  nb : ¬ X b
  hB : w.heap.size ≤ B
  hb : w.heap.size ≤ b
  hs : B ≤ wr.heap.size
  bel : Below w.heap.size w wr
  run : ∃ ms', (seqGo [] (N - j) ms').run Pg.rdS t = (seqGo [] N []).run Pg.rdS t0 ∧ (t.2 = 0 → ms = ms')
theorem DX.end_ {w : World} {B b N : Nat} {t0 : List Bool × Int} {j : Nat} {v : Value} {ms : List Msg} {q : Nat → Value} {X : Nat → Prop} {t : List Bool × Int} {wr : World} (h : DX w B b N t0 j v ms q X t wr) (hx : t.2 ≠ 0 ∨ j = N) :
    ((seqGo [] N []).run Pg.rdS t0).2 = t ∧ (t.2 = 0 → ((seqGo [] N []).run Pg.rdS t0).1 = ms) := by
  obtain ⟨ms', hr, ha⟩ := h.run
  rw [← hr]
  obtain ⟨ta, tb⟩ := t
  rcases hx with hx | hx
  · exact ⟨Pg.rd_err _ _ hx, fun e => absurd e hx⟩
  · subst hx
    rw [Nat.sub_self]
    exact ⟨rfl, fun e => (ha e).symm⟩
/-- A message more: behind it has been read, and laid into a box of its own. -/
theorem DX.step {w : World} {B b N : Nat} {t0 : List Bool × Int} {j : Nat} {v : Value} {ms : List Msg} {q : Nat → Value} {X : Nat → Prop} {l : List Bool} {wr u uu : World} {m : Msg} {p : Option Addr} {c : Nat} (h : DX w B b N t0 j v ms q X (l, 0) wr) (hj : j < N) (hN : N ≤ 31)
    (hm : MX wr b (l, 0) m (.slice p m.bytes.length c) u) (hu : Below u.heap.size u uu) :
    ∃ p' c' w', (Builtin.append_ #[22, 22] 22 #[v, .slice (some ⟨uu.heap.size, 0, none⟩) 1 1]).run Try.prog (uu.alloc (.cells (msgC m (.slice p m.bytes.length c)) 40)) = .ok (.slice p' (j + 1) c') w'
      ∧ ∃ q' X', DX w B b N t0 (j + 1) (.slice p' (j + 1) c') (ms ++ [m]) q' X' ((carr (bare 0)).run Pg.rdS (l, 0)).2 w' := by
  have hf : Fr (fun k => k = b) wr uu := hm.fr.trans (Fr.of_below (fun _ => False) hu) (fun _ _ e => e.elim)
  have hat := h.at_.fr hf (fun k hk e => h.nb (by rw [← e]; exact hk))
  have hbl := h.rx.lt
  have hvlt : ∀ k, v.ownBlock = some k → B ≤ k ∧ k < wr.heap.size := fun k hk => h.at_.XB k (h.at_.vX k hk)
  have hBw := h.hs
  have hrow := (hm.row.below hu).base hBw
  obtain ⟨v', w', hrun, hM', hF', hV'⟩ := MsAt.push (w := uu) 22 hat (Nat.le_trans hBw hf.size) hrow (fun k hk e => by have h1 := (hm.row.ge hk).1; have h2 := (hvlt k e).2; omega) ⟨hm.ok, hm.few⟩ (by rw [h.len]; omega)
  obtain ⟨p', c', hv', _, _⟩ := hM'.form
  rw [show (ms ++ [m]).length = j + 1 by rw [List.length_append, h.len]; rfl] at hv'
  subst hv'
  have hru := hm.rx.below hu
  have hge := h.hb
  refine ⟨p', c', w', hrun, _, _, hM', by rw [List.length_append, h.len]; rfl, hj, hru.fr hF' (fun e => ?_), fun e => ?_, h.hB, h.hb, Nat.le_trans h.hs (Nat.le_trans hf.size hF'.size), ?_, ?_⟩
  · exact h.nb (h.at_.vX b e)
  · rcases e with e | e | e
    · exact h.nb e
    · have := (hm.row.ge e).1; omega
    · rcases hV' b e with e2 | e2
      · exact h.nb (h.at_.vX b e2)
      · have := hf.size; omega
  · have h1 : Below w.heap.size w uu := h.bel.trans (hf.below h.bel.size (fun k hk => by omega))
    exact h1.trans (hF'.below h1.size (fun k hk => by have h2 := (hvlt k hk).1; have h3 := h.hB; omega))
  · obtain ⟨ms', hr, ha⟩ := h.run
    rw [show N - j = (N - (j + 1)) + 1 by omega] at hr
    refine ⟨ms' ++ [((carr (bare 0)).run Pg.rdS (l, 0)).1], ?_, fun h0 => ?_⟩
    · rw [← hr, seqGo, Pg.run_bind]; rfl
    · rw [ha rfl, hm.val h0]
open Go.RowKit Go.Shelf
set_option linter.unusedVariables false
set_option linter.unusedSimpArgs false
attribute [local go_sem ↓] Go.wp_at_zero Go.wp_at_succ

theorem dec_of {bs : List Nat} {N : Nat} {t0 t : List Bool × Int} {ms : List Msg} (e0 : (Pg.rdS false (unpack bs, 0) 0 rCnt).2 = t0) (v0 : t0.2 = 0 → (N : Int) = (Pg.rdS false (unpack bs, 0) 0 rCnt).1) (h1 : ((seqGo [] N []).run Pg.rdS t0).2 = t) (h2 : t.2 = 0 → ((seqGo [] N []).run Pg.rdS t0).1 = ms) :
    (decR bs).2 = t ∧ (t.2 = 0 → (decR bs).1 = ms) := by
  have hd : decR bs = (seqGo [] (Pg.rdS false (unpack bs, 0) 0 rCnt).1.toNat []).run Pg.rdS (Pg.rdS false (unpack bs, 0) 0 rCnt).2 := rfl
  rw [hd, e0]
  by_cases hz : t0.2 = 0
  · rw [← v0 hz, Int.toNat_natCast]; exact ⟨h1, h2⟩
  · obtain ⟨x, y⟩ := t0
    have a : ∀ k, ((seqGo [] k []).run Pg.rdS (x, y)).2 = (x, y) := fun k => Pg.rd_err _ _ hz
    have ht : (x, y) = t := (a N).symm.trans h1
    refine ⟨(a _).trans ht, fun h0 => absurd (by rw [← ht] at h0; exact h0) hz⟩
theorem MsAt.base {w : World} {B C : Nat} {X : Nat → Prop} {v : Value} {ms : List Msg} {q : Nat → Value} (h : MsAt w B X v ms q) (hC : C ≤ B) : MsAt w C X v ms q := by
  refine ⟨⟨h.own.1, ?_⟩, fun i hi => (h.rows i hi).base hC, h.vX, h.rX, fun k hk => ⟨Nat.le_trans hC (h.XB k hk).1, (h.XB k hk).2⟩, h.ok⟩
  rcases h.own.2 with hn | ⟨g, cap, cur, hv, hb, r⟩
  · exact .inl hn
  · exact .inr ⟨g, cap, cur, hv, Nat.le_trans hC hb, r⟩
def lenV : Value → Nat
  | .slice _ n _ => n
  | _ => 0
set_option maxRecDepth 100000 in
set_option maxHeartbeats 4000000 in
theorem refDecode (bs : List Nat) (w : World) (hby : ∀ y ∈ bs, y < 256) (hl : bs.length ≤ 1300) :
    Calls Try.prog 19 #[.string (str bs)] w fun e w' => DecP w (decS bs).1 (decS bs).2 e w' := by
  have hof := refOf bs w hby (by omega)
  have hsz := str_size bs
  have hlen : (unpack bs).length ≤ 20000 := by rw [unpack_length]; omega
  obtain ⟨s, hs⟩ : ∃ s, str bs = s := ⟨_, rfl⟩
  rw [hs] at hof hsz ⊢
  have hdec : decS bs = if (decR bs).2.2 ≠ 0 then ([], (decR bs).2.2) else if restB (decR bs).2.1 = true ∧ bs.length ≤ 1024 then ((decR bs).1, 0) else ([], 3) := rfl
  obtain ⟨D, hd⟩ : ∃ D, decS bs = D := ⟨_, rfl⟩
  rw [hd] at hdec ⊢
  have HDEC := hid hdec
  have hdr := fun (N : Nat) (t0 t : List Bool × Int) (ms : List Msg) => dec_of (bs := bs) (N := N) (t0 := t0) (t := t) (ms := ms)
  clear hs hdec hd
  obtain ⟨ub, hub⟩ : ∃ ub, unpack bs = ub := ⟨_, rfl⟩
  rw [hub] at hof hlen
  simp only [hub] at hdr
  have HDR := hid hdr
  clear hdr hub
  go_enter Try.func19, Try.ntmps19
  go_wp2_with fail
  refine hof.mono ?_; rintro e w1 ⟨rfl, b1⟩
  have hrx : RX (w1.alloc (.cells #[.string (txt (ub)), .int .i64 0] 81)) w1.heap.size (ub, 0) := ⟨ub, Bq.new w1 _ _, fun _ => rfl, hlen⟩
  have hB1 : Below w.heap.size w (w1.alloc (.cells #[.string (txt (ub)), .int .i64 0] 81)) := b1.trans ((Below.refl _ _).alloc b1.size _)
  have hge := b1.size
  obtain ⟨b, hb⟩ : ∃ b, w1.heap.size = b := ⟨_, rfl⟩
  have hn := numberX hrx 5 (by omega)
  have hk : mst (tk (ub, 0) 5) (decide (rCnt.has (Pg.rdx false (tkv (ub, 0) 5)))) = (Pg.rdS false (ub, 0) 0 rCnt).2 ∧ ((Pg.rdS false (ub, 0) 0 rCnt).2.2 = 0 → Pg.rdx false (tkv (ub, 0) 5) = (Pg.rdS false (ub, 0) 0 rCnt).1) := ask_is false (ub, 0) 0 rCnt
  have hv : Pg.rdx false (tkv (ub, 0) 5) = ((val (tkv (ub, 0) 5) : Nat) : Int) := rfl
  have hlt := val_lt (tkv (ub, 0) 5)
  have hl2 : 2 ^ (tkv (ub, 0) 5).length ≤ 2 ^ 5 := Nat.pow_le_pow_right (by decide) (tkv_len (ub, 0) 5)
  rw [hv] at hk hn
  obtain ⟨N, hN⟩ : ∃ N, val (tkv (ub, 0) 5) = N := ⟨_, rfl⟩
  rw [hN] at hk hn hlt
  have hd2 : decide (rCnt.has (N : Int)) = decide ((N : Int) ≤ 16) := by
    congr 1
    exact propext ⟨fun e => e.2, fun e => ⟨show (0 : Int) ≤ _ by omega, e⟩⟩
  rw [hd2] at hk
  obtain ⟨t0, ht0⟩ : ∃ q, (Pg.rdS false (ub, 0) 0 rCnt).2 = q := ⟨_, rfl⟩
  rw [ht0] at hk
  have HK := hid hk; have HT0 := hid ht0
  have hN31 : N ≤ 31 := by omega
  rw [hb] at hn hge
  rw [show ((5 : Nat) : Int) = 5 from rfl] at hn
  have HB1 := hid hB1
  clear hof hrx hB1 hk hv hlt hl2 hN hd2 ht0 b1
  have HBQ := hid hb
  clear hb
  go_wp2_with fail
  simp only [HBQ.out]
  refine hn.mono ?_; rintro e w2 ⟨rfl, hr2, hf2⟩
  have hm := fun ok => mustX hr2 ok
  have hB2 := HB1.out.trans (hf2.below HB1.out.size (fun k hk => by omega))
  have HB2 := hid hB2
  clear hn hr2 hf2 hB2
  go_wp2_with fail
  refine (hm _).mono ?_; rintro e w3 ⟨rfl, hr3, hf3⟩
  try rw [show decide (N ≤ 16) = decide ((N : Int) ≤ 16) from by congr 1; exact propext (by omega)] at hr3
  rw [HK.out.1] at hr3
  have hB3 := HB2.out.trans (hf3.below HB2.out.size (fun k hk => by omega))
  have hrl := hr3.lt
  have hDX : DX w w3.heap.size b N t0 0 (.slice (some ⟨w3.heap.size, 0, none⟩) 0 0) [] (fun _ => .slice none 0 0) (fun k => k = w3.heap.size) t0 (w3.alloc (.cells #[] 40)) :=
    ⟨MsAt.empty w3, rfl, Nat.zero_le _, hr3.below ((Below.refl _ _).alloc (Nat.le_refl _) _), fun e => by omega, hB3.size, hge, by simp, hB3.trans ((Below.refl _ _).alloc hB3.size _), [], rfl, fun _ => rfl⟩
  have HDX := hid hDX
  obtain ⟨B, hB⟩ : ∃ B, w3.heap.size = B := ⟨_, rfl⟩
  rw [hB] at HDX
  clear hm hr3 hf3 hB3 hrl hDX HB1 HB2
  have HBR := hid hB
  clear hB
  go_wp2_with fail
  simp only [HBR.out]
  go_loopw [6, 7] (fun v _ wr => ∃ (j c6 : Nat) (p6 : Option Addr) (ms : List Msg) (q : Nat → Value) (X : Nat → Prop) (t : List Bool × Int), v = .slice p6 j c6 ∧ DX w B b N t0 j (.slice p6 j c6) ms q X t wr) (fun v _ _ => N - lenV v)
  case atStart => exact ⟨0, 0, _, [], _, _, t0, rfl, HDX.out⟩
  case round =>
    obtain ⟨j, c6, p6, ms, q, X, t, rfl, hD⟩ := hrel
    clear HDX
    have ce := hD.rx.err
    by_cases hlt : j < N ∧ t.2 = 0
    · obtain ⟨hlt, hz⟩ := hlt
      obtain ⟨l, te⟩ := t
      dsimp only at hz
      subst hz
      dsimp only at ce
      have i1 : (j : Int) < (N : Int) := by omega
      have hmx := messageX hD.rx
      have hst := fun (m : Msg) (p : Option Addr) (c : Nat) (u uu : World) => hD.step (m := m) (p := p) (c := c) (u := u) (uu := uu) hlt hN31
      clear hD
      go_wp2_with fail
      refine hmx.mono ?_; rintro e u ⟨m, v, rfl, hm⟩
      obtain ⟨p9, c9, rfl, _⟩ := hm.row.arg
      obtain ⟨uu, huu⟩ : ∃ uu, u.alloc (.cells (msgC m (.slice p9 m.bytes.length c9)) 40) = uu := ⟨_, rfl⟩
      have hobj : uu.heap[u.heap.size]? = some (.cells (msgC m (.slice p9 m.bytes.length c9)) 40 (0, 0)) := by rw [← huu]; exact heap_alloc_new u _
      obtain ⟨p8, c8, w8, hrun, q8, X8, hD8⟩ := hst m p9 c9 u uu hm (by rw [← huu]; exact (Below.refl _ _).alloc (Nat.le_refl _) _)
      have HD8 := hid hD8
      have HO := hid hobj
      clear hmx hst hm hD8 ce hobj
      unfold msgC at hrun huu HO ⊢
      go_wp2_with (first
        | (refine wpList_store_row rfl 40 _ _ rfl u.heap.size _ rfl rfl 40 zMsg (heap_alloc_new u _) size_msg rfl one23 ?_; rw [World.setRow_alloc_new, huu])
        | (refine wpList_load_row rfl 40 _ rfl u.heap.size rfl 40 _ (0, 0) _ HO.out Try.underlying40 rfl size_msg ?_)
        | (at_builtin; refine Lib.wpList_append_run _ rfl _ _ _ _ rfl _ _ rfl rfl _ _ hrun ?_; clear hrun))
      go_roundw
      case rel => exact ⟨j + 1, c8, p8, _, _, _, _, rfl, HD8.out⟩
      case measure => simp [lenV, Value.cells]; omega
    · have hx : t.2 ≠ 0 ∨ j = N := by
        have := hD.le
        by_cases h0 : t.2 = 0
        · exact .inr (by omega)
        · exact .inl h0
      have hend := hD.end_ hx
      have HRR := hid (HDR.out N t0 t ms HT0.out (fun h => HK.out.2 h) hend.1 hend.2)
      obtain ⟨l, hq, hl1, hl2⟩ := hD.rx.at_
      have hrest := refRest l wr (by omega)
      have cs := hq.cell (i := 0) rfl
      have HLT := hid hl1; have HRX := hid hD.rx; have HM := hid hD.at_; have HBEL := hid hD.bel; have HGE := hid hD.hb; have HNB := hid hD.nb; have HBW := hid hD.hB
      have hjN := hD.le
      clear hend hq hl1 hD hlt
      rcases hx with hx | hx
      · have i2 : (t.2 == 0) = false := beq_eq_false_iff_ne.2 hx
        by_cases hj2 : (j : Int) < (N : Int)
        · skip
          cases hrb : restB l
          · rw [hrb] at hrest
            go_wp2_with fail
            refine hrest.mono ?_; rintro e w6 ⟨rfl, hw⟩
            rw [hw]
            clear hw w6 hrest
            go_wp2_with fail
            refine (mustX HRX.out _).mono ?_; rintro e w7 ⟨rfl, hr7, hf7⟩
            have hz := hx
            obtain ⟨E0, hE0v⟩ : ∃ E0 : Int, t.2 = E0 := ⟨_, rfl⟩
            have hmst : (mst t false).2 = E0 := by unfold mst; rw [if_neg (fun e => hz e.2)]; exact hE0v
            have ce := hr7.err
            rw [hmst] at ce
            have hE : D = ([], E0) := by rw [HDEC.out, HRR.out.1, if_pos hz, hE0v]
            have hE0 : E0 ≠ 0 := by rw [← hE0v]; exact hz
            have HE := hid hE
            have hB7 := hid (HBEL.out.trans (hf7.below HBEL.out.size (fun k hk => by have := HGE.out; omega)))
            have hne : (E0 == 0) = false := beq_eq_false_iff_ne.2 hE0
            have hne2 : (E0 != 0) = true := by simp [hE0]
            clear hr7 hf7
            go_wp2_with fail
            have cD : (w7.drewN 1).cell? ⟨b, 1, none⟩ = some (.int .i64 E0) := ce
            refine region_held (fun u => u.cell? ⟨b, 1, none⟩ = some (.int .i64 E0)) 6 rfl (by kernel_rfl) cD ?_
            intro hHeld
            refine takeO 0 (some 55) (v := ?v1) rfl rfl (by kernel_rfl) (by kernel_rfl) (by kernel_rfl) (Or.inl ⟨by rfl, ?y1⟩) hHeld ?r1
            case y1 => (intro w' hSw; (try dsimp only at hSw); go_simp; try with_reducible rfl)
            try simp only [Act.put, List.setIfInBounds_toArray, List.set_cons_zero, List.set_cons_succ]
            refine takeO 1 (some 56) (v := ?v2) rfl rfl (by kernel_rfl) (by kernel_rfl) (by kernel_rfl) (Or.inl ⟨by rfl, ?y2⟩) hHeld ?r2
            case y2 => (intro w' hSw; (try dsimp only at hSw); go_simp; try with_reducible rfl)
            try simp only [Act.put, List.setIfInBounds_toArray, List.set_cons_zero, List.set_cons_succ]
            refine takeO 2 (some 57) (v := ?v3) rfl rfl (by kernel_rfl) (by kernel_rfl) (by kernel_rfl) (Or.inl ⟨by rfl, ?y3⟩) hHeld ?r3
            case y3 => (intro w' hSw; (try dsimp only at hSw); go_simp; try with_reducible rfl)
            try simp only [Act.put, List.setIfInBounds_toArray, List.set_cons_zero, List.set_cons_succ]
            refine takeO 3 (some 58) (v := ?v4) rfl rfl (by kernel_rfl) (by kernel_rfl) (by kernel_rfl) (Or.inl ⟨by rfl, ?y4⟩) hHeld ?r4
            case y4 => (intro w' hSw; (try dsimp only at hSw); go_simp; try with_reducible rfl)
            try simp only [Act.put, List.setIfInBounds_toArray, List.set_cons_zero, List.set_cons_succ]
            refine takeO 4 (some 2) (v := ?v5) rfl rfl (by kernel_rfl) (by kernel_rfl) (by kernel_rfl) (Or.inl ⟨by rfl, ?y5⟩) hHeld ?r5
            case y5 => (intro w' hSw; (try dsimp only at hSw); go_simp; try with_reducible rfl)
            try simp only [Act.put, List.setIfInBounds_toArray, List.set_cons_zero, List.set_cons_succ]
            refine takeO 5 (some 3) (v := ?v6) rfl rfl (by kernel_rfl) (by kernel_rfl) (by kernel_rfl) (Or.inl ⟨by rfl, ?y6⟩) hHeld ?r6
            case y6 => (intro w' hSw; (try dsimp only at hSw); go_simp; try with_reducible rfl)
            try simp only [Act.put, List.setIfInBounds_toArray, List.set_cons_zero, List.set_cons_succ]
            refine wpAnyH_done (by kernel_rfl) (Only.on ?_) _
            go_wp2_with fail
            go_returns
            rw [HE.out]
            exact ⟨⟨_, _, _, rfl, MsAt.nil _ _⟩, hB7.out.trans (below_drewN _ _)⟩
          · rw [hrb] at hrest
            by_cases h8 : bs.length ≤ 1024
            · have hI8 : (bs.length : Int) ≤ 1024 := by omega
              go_wp2_with fail
              refine hrest.mono ?_; rintro e w6 ⟨rfl, hw⟩
              rw [hw]
              clear hw w6 hrest
              go_wp2_with fail
              refine (mustX HRX.out _).mono ?_; rintro e w7 ⟨rfl, hr7, hf7⟩
              rw [mst_true] at hr7
              have hz := hx
              obtain ⟨E0, hE0v⟩ : ∃ E0 : Int, t.2 = E0 := ⟨_, rfl⟩
              have ce := hr7.err
              rw [hE0v] at ce
              have hE : D = ([], E0) := by rw [HDEC.out, HRR.out.1, if_pos hz, hE0v]
              have hE0 : E0 ≠ 0 := by rw [← hE0v]; exact hz
              have HE := hid hE
              have hB7 := hid (HBEL.out.trans (hf7.below HBEL.out.size (fun k hk => by have := HGE.out; omega)))
              have hne : (E0 == 0) = false := beq_eq_false_iff_ne.2 hE0
              have hne2 : (E0 != 0) = true := by simp [hE0]
              clear hr7 hf7
              go_wp2_with fail
              have cD : (w7.drewN 1).cell? ⟨b, 1, none⟩ = some (.int .i64 E0) := ce
              refine region_held (fun u => u.cell? ⟨b, 1, none⟩ = some (.int .i64 E0)) 6 rfl (by kernel_rfl) cD ?_
              intro hHeld
              refine takeO 0 (some 55) (v := ?v7) rfl rfl (by kernel_rfl) (by kernel_rfl) (by kernel_rfl) (Or.inl ⟨by rfl, ?y7⟩) hHeld ?r7
              case y7 => (intro w' hSw; (try dsimp only at hSw); go_simp; try with_reducible rfl)
              try simp only [Act.put, List.setIfInBounds_toArray, List.set_cons_zero, List.set_cons_succ]
              refine takeO 1 (some 56) (v := ?v8) rfl rfl (by kernel_rfl) (by kernel_rfl) (by kernel_rfl) (Or.inl ⟨by rfl, ?y8⟩) hHeld ?r8
              case y8 => (intro w' hSw; (try dsimp only at hSw); go_simp; try with_reducible rfl)
              try simp only [Act.put, List.setIfInBounds_toArray, List.set_cons_zero, List.set_cons_succ]
              refine takeO 2 (some 57) (v := ?v9) rfl rfl (by kernel_rfl) (by kernel_rfl) (by kernel_rfl) (Or.inl ⟨by rfl, ?y9⟩) hHeld ?r9
              case y9 => (intro w' hSw; (try dsimp only at hSw); go_simp; try with_reducible rfl)
              try simp only [Act.put, List.setIfInBounds_toArray, List.set_cons_zero, List.set_cons_succ]
              refine takeO 3 (some 58) (v := ?v10) rfl rfl (by kernel_rfl) (by kernel_rfl) (by kernel_rfl) (Or.inl ⟨by rfl, ?y10⟩) hHeld ?r10
              case y10 => (intro w' hSw; (try dsimp only at hSw); go_simp; try with_reducible rfl)
              try simp only [Act.put, List.setIfInBounds_toArray, List.set_cons_zero, List.set_cons_succ]
              refine takeO 4 (some 2) (v := ?v11) rfl rfl (by kernel_rfl) (by kernel_rfl) (by kernel_rfl) (Or.inl ⟨by rfl, ?y11⟩) hHeld ?r11
              case y11 => (intro w' hSw; (try dsimp only at hSw); go_simp; try with_reducible rfl)
              try simp only [Act.put, List.setIfInBounds_toArray, List.set_cons_zero, List.set_cons_succ]
              refine takeO 5 (some 3) (v := ?v12) rfl rfl (by kernel_rfl) (by kernel_rfl) (by kernel_rfl) (Or.inl ⟨by rfl, ?y12⟩) hHeld ?r12
              case y12 => (intro w' hSw; (try dsimp only at hSw); go_simp; try with_reducible rfl)
              try simp only [Act.put, List.setIfInBounds_toArray, List.set_cons_zero, List.set_cons_succ]
              refine wpAnyH_done (by kernel_rfl) (Only.on ?_) _
              go_wp2_with fail
              go_returns
              rw [HE.out]
              exact ⟨⟨_, _, _, rfl, MsAt.nil _ _⟩, hB7.out.trans (below_drewN _ _)⟩
            · have hI8 : ¬ (bs.length : Int) ≤ 1024 := by omega
              go_wp2_with fail
              refine hrest.mono ?_; rintro e w6 ⟨rfl, hw⟩
              rw [hw]
              clear hw w6 hrest
              go_wp2_with fail
              refine (mustX HRX.out _).mono ?_; rintro e w7 ⟨rfl, hr7, hf7⟩
              rw [show decide ((bs.length : Int) ≤ 1024) = false from decide_eq_false (by omega)] at hr7
              have hz := hx
              obtain ⟨E0, hE0v⟩ : ∃ E0 : Int, t.2 = E0 := ⟨_, rfl⟩
              have hmst : (mst t false).2 = E0 := by unfold mst; rw [if_neg (fun e => hz e.2)]; exact hE0v
              have ce := hr7.err
              rw [hmst] at ce
              have hE : D = ([], E0) := by rw [HDEC.out, HRR.out.1, if_pos hz, hE0v]
              have hE0 : E0 ≠ 0 := by rw [← hE0v]; exact hz
              have HE := hid hE
              have hB7 := hid (HBEL.out.trans (hf7.below HBEL.out.size (fun k hk => by have := HGE.out; omega)))
              have hne : (E0 == 0) = false := beq_eq_false_iff_ne.2 hE0
              have hne2 : (E0 != 0) = true := by simp [hE0]
              clear hr7 hf7
              go_wp2_with fail
              have cD : (w7.drewN 1).cell? ⟨b, 1, none⟩ = some (.int .i64 E0) := ce
              refine region_held (fun u => u.cell? ⟨b, 1, none⟩ = some (.int .i64 E0)) 6 rfl (by kernel_rfl) cD ?_
              intro hHeld
              refine takeO 0 (some 55) (v := ?v13) rfl rfl (by kernel_rfl) (by kernel_rfl) (by kernel_rfl) (Or.inl ⟨by rfl, ?y13⟩) hHeld ?r13
              case y13 => (intro w' hSw; (try dsimp only at hSw); go_simp; try with_reducible rfl)
              try simp only [Act.put, List.setIfInBounds_toArray, List.set_cons_zero, List.set_cons_succ]
              refine takeO 1 (some 56) (v := ?v14) rfl rfl (by kernel_rfl) (by kernel_rfl) (by kernel_rfl) (Or.inl ⟨by rfl, ?y14⟩) hHeld ?r14
              case y14 => (intro w' hSw; (try dsimp only at hSw); go_simp; try with_reducible rfl)
              try simp only [Act.put, List.setIfInBounds_toArray, List.set_cons_zero, List.set_cons_succ]
              refine takeO 2 (some 57) (v := ?v15) rfl rfl (by kernel_rfl) (by kernel_rfl) (by kernel_rfl) (Or.inl ⟨by rfl, ?y15⟩) hHeld ?r15
              case y15 => (intro w' hSw; (try dsimp only at hSw); go_simp; try with_reducible rfl)
              try simp only [Act.put, List.setIfInBounds_toArray, List.set_cons_zero, List.set_cons_succ]
              refine takeO 3 (some 58) (v := ?v16) rfl rfl (by kernel_rfl) (by kernel_rfl) (by kernel_rfl) (Or.inl ⟨by rfl, ?y16⟩) hHeld ?r16
              case y16 => (intro w' hSw; (try dsimp only at hSw); go_simp; try with_reducible rfl)
              try simp only [Act.put, List.setIfInBounds_toArray, List.set_cons_zero, List.set_cons_succ]
              refine takeO 4 (some 2) (v := ?v17) rfl rfl (by kernel_rfl) (by kernel_rfl) (by kernel_rfl) (Or.inl ⟨by rfl, ?y17⟩) hHeld ?r17
              case y17 => (intro w' hSw; (try dsimp only at hSw); go_simp; try with_reducible rfl)
              try simp only [Act.put, List.setIfInBounds_toArray, List.set_cons_zero, List.set_cons_succ]
              refine takeO 5 (some 3) (v := ?v18) rfl rfl (by kernel_rfl) (by kernel_rfl) (by kernel_rfl) (Or.inl ⟨by rfl, ?y18⟩) hHeld ?r18
              case y18 => (intro w' hSw; (try dsimp only at hSw); go_simp; try with_reducible rfl)
              try simp only [Act.put, List.setIfInBounds_toArray, List.set_cons_zero, List.set_cons_succ]
              refine wpAnyH_done (by kernel_rfl) (Only.on ?_) _
              go_wp2_with fail
              go_returns
              rw [HE.out]
              exact ⟨⟨_, _, _, rfl, MsAt.nil _ _⟩, hB7.out.trans (below_drewN _ _)⟩
        · skip
          cases hrb : restB l
          · rw [hrb] at hrest
            go_wp2_with fail
            refine hrest.mono ?_; rintro e w6 ⟨rfl, hw⟩
            rw [hw]
            clear hw w6 hrest
            go_wp2_with fail
            refine (mustX HRX.out _).mono ?_; rintro e w7 ⟨rfl, hr7, hf7⟩
            have hz := hx
            obtain ⟨E0, hE0v⟩ : ∃ E0 : Int, t.2 = E0 := ⟨_, rfl⟩
            have hmst : (mst t false).2 = E0 := by unfold mst; rw [if_neg (fun e => hz e.2)]; exact hE0v
            have ce := hr7.err
            rw [hmst] at ce
            have hE : D = ([], E0) := by rw [HDEC.out, HRR.out.1, if_pos hz, hE0v]
            have hE0 : E0 ≠ 0 := by rw [← hE0v]; exact hz
            have HE := hid hE
            have hB7 := hid (HBEL.out.trans (hf7.below HBEL.out.size (fun k hk => by have := HGE.out; omega)))
            have hne : (E0 == 0) = false := beq_eq_false_iff_ne.2 hE0
            have hne2 : (E0 != 0) = true := by simp [hE0]
            clear hr7 hf7
            go_wp2_with fail
            have cD : (w7.drewN 1).cell? ⟨b, 1, none⟩ = some (.int .i64 E0) := ce
            refine region_held (fun u => u.cell? ⟨b, 1, none⟩ = some (.int .i64 E0)) 6 rfl (by kernel_rfl) cD ?_
            intro hHeld
            refine takeO 0 (some 55) (v := ?v19) rfl rfl (by kernel_rfl) (by kernel_rfl) (by kernel_rfl) (Or.inl ⟨by rfl, ?y19⟩) hHeld ?r19
            case y19 => (intro w' hSw; (try dsimp only at hSw); go_simp; try with_reducible rfl)
            try simp only [Act.put, List.setIfInBounds_toArray, List.set_cons_zero, List.set_cons_succ]
            refine takeO 1 (some 56) (v := ?v20) rfl rfl (by kernel_rfl) (by kernel_rfl) (by kernel_rfl) (Or.inl ⟨by rfl, ?y20⟩) hHeld ?r20
            case y20 => (intro w' hSw; (try dsimp only at hSw); go_simp; try with_reducible rfl)
            try simp only [Act.put, List.setIfInBounds_toArray, List.set_cons_zero, List.set_cons_succ]
            refine takeO 2 (some 57) (v := ?v21) rfl rfl (by kernel_rfl) (by kernel_rfl) (by kernel_rfl) (Or.inl ⟨by rfl, ?y21⟩) hHeld ?r21
            case y21 => (intro w' hSw; (try dsimp only at hSw); go_simp; try with_reducible rfl)
            try simp only [Act.put, List.setIfInBounds_toArray, List.set_cons_zero, List.set_cons_succ]
            refine takeO 3 (some 58) (v := ?v22) rfl rfl (by kernel_rfl) (by kernel_rfl) (by kernel_rfl) (Or.inl ⟨by rfl, ?y22⟩) hHeld ?r22
            case y22 => (intro w' hSw; (try dsimp only at hSw); go_simp; try with_reducible rfl)
            try simp only [Act.put, List.setIfInBounds_toArray, List.set_cons_zero, List.set_cons_succ]
            refine takeO 4 (some 2) (v := ?v23) rfl rfl (by kernel_rfl) (by kernel_rfl) (by kernel_rfl) (Or.inl ⟨by rfl, ?y23⟩) hHeld ?r23
            case y23 => (intro w' hSw; (try dsimp only at hSw); go_simp; try with_reducible rfl)
            try simp only [Act.put, List.setIfInBounds_toArray, List.set_cons_zero, List.set_cons_succ]
            refine takeO 5 (some 3) (v := ?v24) rfl rfl (by kernel_rfl) (by kernel_rfl) (by kernel_rfl) (Or.inl ⟨by rfl, ?y24⟩) hHeld ?r24
            case y24 => (intro w' hSw; (try dsimp only at hSw); go_simp; try with_reducible rfl)
            try simp only [Act.put, List.setIfInBounds_toArray, List.set_cons_zero, List.set_cons_succ]
            refine wpAnyH_done (by kernel_rfl) (Only.on ?_) _
            go_wp2_with fail
            go_returns
            rw [HE.out]
            exact ⟨⟨_, _, _, rfl, MsAt.nil _ _⟩, hB7.out.trans (below_drewN _ _)⟩
          · rw [hrb] at hrest
            by_cases h8 : bs.length ≤ 1024
            · have hI8 : (bs.length : Int) ≤ 1024 := by omega
              go_wp2_with fail
              refine hrest.mono ?_; rintro e w6 ⟨rfl, hw⟩
              rw [hw]
              clear hw w6 hrest
              go_wp2_with fail
              refine (mustX HRX.out _).mono ?_; rintro e w7 ⟨rfl, hr7, hf7⟩
              rw [mst_true] at hr7
              have hz := hx
              obtain ⟨E0, hE0v⟩ : ∃ E0 : Int, t.2 = E0 := ⟨_, rfl⟩
              have ce := hr7.err
              rw [hE0v] at ce
              have hE : D = ([], E0) := by rw [HDEC.out, HRR.out.1, if_pos hz, hE0v]
              have hE0 : E0 ≠ 0 := by rw [← hE0v]; exact hz
              have HE := hid hE
              have hB7 := hid (HBEL.out.trans (hf7.below HBEL.out.size (fun k hk => by have := HGE.out; omega)))
              have hne : (E0 == 0) = false := beq_eq_false_iff_ne.2 hE0
              have hne2 : (E0 != 0) = true := by simp [hE0]
              clear hr7 hf7
              go_wp2_with fail
              have cD : (w7.drewN 1).cell? ⟨b, 1, none⟩ = some (.int .i64 E0) := ce
              refine region_held (fun u => u.cell? ⟨b, 1, none⟩ = some (.int .i64 E0)) 6 rfl (by kernel_rfl) cD ?_
              intro hHeld
              refine takeO 0 (some 55) (v := ?v25) rfl rfl (by kernel_rfl) (by kernel_rfl) (by kernel_rfl) (Or.inl ⟨by rfl, ?y25⟩) hHeld ?r25
              case y25 => (intro w' hSw; (try dsimp only at hSw); go_simp; try with_reducible rfl)
              try simp only [Act.put, List.setIfInBounds_toArray, List.set_cons_zero, List.set_cons_succ]
              refine takeO 1 (some 56) (v := ?v26) rfl rfl (by kernel_rfl) (by kernel_rfl) (by kernel_rfl) (Or.inl ⟨by rfl, ?y26⟩) hHeld ?r26
              case y26 => (intro w' hSw; (try dsimp only at hSw); go_simp; try with_reducible rfl)
              try simp only [Act.put, List.setIfInBounds_toArray, List.set_cons_zero, List.set_cons_succ]
              refine takeO 2 (some 57) (v := ?v27) rfl rfl (by kernel_rfl) (by kernel_rfl) (by kernel_rfl) (Or.inl ⟨by rfl, ?y27⟩) hHeld ?r27
              case y27 => (intro w' hSw; (try dsimp only at hSw); go_simp; try with_reducible rfl)
              try simp only [Act.put, List.setIfInBounds_toArray, List.set_cons_zero, List.set_cons_succ]
              refine takeO 3 (some 58) (v := ?v28) rfl rfl (by kernel_rfl) (by kernel_rfl) (by kernel_rfl) (Or.inl ⟨by rfl, ?y28⟩) hHeld ?r28
              case y28 => (intro w' hSw; (try dsimp only at hSw); go_simp; try with_reducible rfl)
              try simp only [Act.put, List.setIfInBounds_toArray, List.set_cons_zero, List.set_cons_succ]
              refine takeO 4 (some 2) (v := ?v29) rfl rfl (by kernel_rfl) (by kernel_rfl) (by kernel_rfl) (Or.inl ⟨by rfl, ?y29⟩) hHeld ?r29
              case y29 => (intro w' hSw; (try dsimp only at hSw); go_simp; try with_reducible rfl)
              try simp only [Act.put, List.setIfInBounds_toArray, List.set_cons_zero, List.set_cons_succ]
              refine takeO 5 (some 3) (v := ?v30) rfl rfl (by kernel_rfl) (by kernel_rfl) (by kernel_rfl) (Or.inl ⟨by rfl, ?y30⟩) hHeld ?r30
              case y30 => (intro w' hSw; (try dsimp only at hSw); go_simp; try with_reducible rfl)
              try simp only [Act.put, List.setIfInBounds_toArray, List.set_cons_zero, List.set_cons_succ]
              refine wpAnyH_done (by kernel_rfl) (Only.on ?_) _
              go_wp2_with fail
              go_returns
              rw [HE.out]
              exact ⟨⟨_, _, _, rfl, MsAt.nil _ _⟩, hB7.out.trans (below_drewN _ _)⟩
            · have hI8 : ¬ (bs.length : Int) ≤ 1024 := by omega
              go_wp2_with fail
              refine hrest.mono ?_; rintro e w6 ⟨rfl, hw⟩
              rw [hw]
              clear hw w6 hrest
              go_wp2_with fail
              refine (mustX HRX.out _).mono ?_; rintro e w7 ⟨rfl, hr7, hf7⟩
              rw [show decide ((bs.length : Int) ≤ 1024) = false from decide_eq_false (by omega)] at hr7
              have hz := hx
              obtain ⟨E0, hE0v⟩ : ∃ E0 : Int, t.2 = E0 := ⟨_, rfl⟩
              have hmst : (mst t false).2 = E0 := by unfold mst; rw [if_neg (fun e => hz e.2)]; exact hE0v
              have ce := hr7.err
              rw [hmst] at ce
              have hE : D = ([], E0) := by rw [HDEC.out, HRR.out.1, if_pos hz, hE0v]
              have hE0 : E0 ≠ 0 := by rw [← hE0v]; exact hz
              have HE := hid hE
              have hB7 := hid (HBEL.out.trans (hf7.below HBEL.out.size (fun k hk => by have := HGE.out; omega)))
              have hne : (E0 == 0) = false := beq_eq_false_iff_ne.2 hE0
              have hne2 : (E0 != 0) = true := by simp [hE0]
              clear hr7 hf7
              go_wp2_with fail
              have cD : (w7.drewN 1).cell? ⟨b, 1, none⟩ = some (.int .i64 E0) := ce
              refine region_held (fun u => u.cell? ⟨b, 1, none⟩ = some (.int .i64 E0)) 6 rfl (by kernel_rfl) cD ?_
              intro hHeld
              refine takeO 0 (some 55) (v := ?v31) rfl rfl (by kernel_rfl) (by kernel_rfl) (by kernel_rfl) (Or.inl ⟨by rfl, ?y31⟩) hHeld ?r31
              case y31 => (intro w' hSw; (try dsimp only at hSw); go_simp; try with_reducible rfl)
              try simp only [Act.put, List.setIfInBounds_toArray, List.set_cons_zero, List.set_cons_succ]
              refine takeO 1 (some 56) (v := ?v32) rfl rfl (by kernel_rfl) (by kernel_rfl) (by kernel_rfl) (Or.inl ⟨by rfl, ?y32⟩) hHeld ?r32
              case y32 => (intro w' hSw; (try dsimp only at hSw); go_simp; try with_reducible rfl)
              try simp only [Act.put, List.setIfInBounds_toArray, List.set_cons_zero, List.set_cons_succ]
              refine takeO 2 (some 57) (v := ?v33) rfl rfl (by kernel_rfl) (by kernel_rfl) (by kernel_rfl) (Or.inl ⟨by rfl, ?y33⟩) hHeld ?r33
              case y33 => (intro w' hSw; (try dsimp only at hSw); go_simp; try with_reducible rfl)
              try simp only [Act.put, List.setIfInBounds_toArray, List.set_cons_zero, List.set_cons_succ]
              refine takeO 3 (some 58) (v := ?v34) rfl rfl (by kernel_rfl) (by kernel_rfl) (by kernel_rfl) (Or.inl ⟨by rfl, ?y34⟩) hHeld ?r34
              case y34 => (intro w' hSw; (try dsimp only at hSw); go_simp; try with_reducible rfl)
              try simp only [Act.put, List.setIfInBounds_toArray, List.set_cons_zero, List.set_cons_succ]
              refine takeO 4 (some 2) (v := ?v35) rfl rfl (by kernel_rfl) (by kernel_rfl) (by kernel_rfl) (Or.inl ⟨by rfl, ?y35⟩) hHeld ?r35
              case y35 => (intro w' hSw; (try dsimp only at hSw); go_simp; try with_reducible rfl)
              try simp only [Act.put, List.setIfInBounds_toArray, List.set_cons_zero, List.set_cons_succ]
              refine takeO 5 (some 3) (v := ?v36) rfl rfl (by kernel_rfl) (by kernel_rfl) (by kernel_rfl) (Or.inl ⟨by rfl, ?y36⟩) hHeld ?r36
              case y36 => (intro w' hSw; (try dsimp only at hSw); go_simp; try with_reducible rfl)
              try simp only [Act.put, List.setIfInBounds_toArray, List.set_cons_zero, List.set_cons_succ]
              refine wpAnyH_done (by kernel_rfl) (Only.on ?_) _
              go_wp2_with fail
              go_returns
              rw [HE.out]
              exact ⟨⟨_, _, _, rfl, MsAt.nil _ _⟩, hB7.out.trans (below_drewN _ _)⟩
      · subst hx
        have i1 : ¬ (j : Int) < (j : Int) := by omega
        cases hrb : restB l
        · rw [hrb] at hrest
          go_wp2_with fail
          refine hrest.mono ?_; rintro e w6 ⟨rfl, hw⟩
          rw [hw]
          clear hw w6 hrest
          go_wp2_with fail
          refine (mustX HRX.out _).mono ?_; rintro e w7 ⟨rfl, hr7, hf7⟩
          by_cases hz : t.2 = 0
          · obtain ⟨E0, hE0v⟩ : ∃ E0 : Int, 3 = E0 := ⟨_, rfl⟩
            have hmst : (mst t false).2 = E0 := by unfold mst; rw [if_pos ⟨rfl, hz⟩]; exact hE0v
            have ce := hr7.err
            rw [hmst] at ce
            have hE : D = ([], E0) := by
              rw [HDEC.out, HRR.out.1, if_neg (fun e => e hz), if_neg (fun e => by have h1 := e.1; rw [← HLT.out hz, hrb] at h1; first | (exact absurd h1 (by decide)) | exact h8 e.2), hE0v]
            have hE0 : E0 ≠ 0 := by omega
            have HE := hid hE
            have hB7 := hid (HBEL.out.trans (hf7.below HBEL.out.size (fun k hk => by have := HGE.out; omega)))
            have hne : (E0 == 0) = false := beq_eq_false_iff_ne.2 hE0
            have hne2 : (E0 != 0) = true := by simp [hE0]
            clear hr7 hf7
            go_wp2_with fail
            have cD : (w7.drewN 1).cell? ⟨b, 1, none⟩ = some (.int .i64 E0) := ce
            refine region_held (fun u => u.cell? ⟨b, 1, none⟩ = some (.int .i64 E0)) 6 rfl (by kernel_rfl) cD ?_
            intro hHeld
            refine takeO 0 (some 55) (v := ?v37) rfl rfl (by kernel_rfl) (by kernel_rfl) (by kernel_rfl) (Or.inl ⟨by rfl, ?y37⟩) hHeld ?r37
            case y37 => (intro w' hSw; (try dsimp only at hSw); go_simp; try with_reducible rfl)
            try simp only [Act.put, List.setIfInBounds_toArray, List.set_cons_zero, List.set_cons_succ]
            refine takeO 1 (some 56) (v := ?v38) rfl rfl (by kernel_rfl) (by kernel_rfl) (by kernel_rfl) (Or.inl ⟨by rfl, ?y38⟩) hHeld ?r38
            case y38 => (intro w' hSw; (try dsimp only at hSw); go_simp; try with_reducible rfl)
            try simp only [Act.put, List.setIfInBounds_toArray, List.set_cons_zero, List.set_cons_succ]
            refine takeO 2 (some 57) (v := ?v39) rfl rfl (by kernel_rfl) (by kernel_rfl) (by kernel_rfl) (Or.inl ⟨by rfl, ?y39⟩) hHeld ?r39
            case y39 => (intro w' hSw; (try dsimp only at hSw); go_simp; try with_reducible rfl)
            try simp only [Act.put, List.setIfInBounds_toArray, List.set_cons_zero, List.set_cons_succ]
            refine takeO 3 (some 58) (v := ?v40) rfl rfl (by kernel_rfl) (by kernel_rfl) (by kernel_rfl) (Or.inl ⟨by rfl, ?y40⟩) hHeld ?r40
            case y40 => (intro w' hSw; (try dsimp only at hSw); go_simp; try with_reducible rfl)
            try simp only [Act.put, List.setIfInBounds_toArray, List.set_cons_zero, List.set_cons_succ]
            refine takeO 4 (some 2) (v := ?v41) rfl rfl (by kernel_rfl) (by kernel_rfl) (by kernel_rfl) (Or.inl ⟨by rfl, ?y41⟩) hHeld ?r41
            case y41 => (intro w' hSw; (try dsimp only at hSw); go_simp; try with_reducible rfl)
            try simp only [Act.put, List.setIfInBounds_toArray, List.set_cons_zero, List.set_cons_succ]
            refine takeO 5 (some 3) (v := ?v42) rfl rfl (by kernel_rfl) (by kernel_rfl) (by kernel_rfl) (Or.inl ⟨by rfl, ?y42⟩) hHeld ?r42
            case y42 => (intro w' hSw; (try dsimp only at hSw); go_simp; try with_reducible rfl)
            try simp only [Act.put, List.setIfInBounds_toArray, List.set_cons_zero, List.set_cons_succ]
            refine wpAnyH_done (by kernel_rfl) (Only.on ?_) _
            go_wp2_with fail
            go_returns
            rw [HE.out]
            exact ⟨⟨_, _, _, rfl, MsAt.nil _ _⟩, hB7.out.trans (below_drewN _ _)⟩
          · obtain ⟨E0, hE0v⟩ : ∃ E0 : Int, t.2 = E0 := ⟨_, rfl⟩
            have hmst : (mst t false).2 = E0 := by unfold mst; rw [if_neg (fun e => hz e.2)]; exact hE0v
            have ce := hr7.err
            rw [hmst] at ce
            have hE : D = ([], E0) := by rw [HDEC.out, HRR.out.1, if_pos hz, hE0v]
            have hE0 : E0 ≠ 0 := by rw [← hE0v]; exact hz
            have HE := hid hE
            have hB7 := hid (HBEL.out.trans (hf7.below HBEL.out.size (fun k hk => by have := HGE.out; omega)))
            have hne : (E0 == 0) = false := beq_eq_false_iff_ne.2 hE0
            have hne2 : (E0 != 0) = true := by simp [hE0]
            clear hr7 hf7
            go_wp2_with fail
            have cD : (w7.drewN 1).cell? ⟨b, 1, none⟩ = some (.int .i64 E0) := ce
            refine region_held (fun u => u.cell? ⟨b, 1, none⟩ = some (.int .i64 E0)) 6 rfl (by kernel_rfl) cD ?_
            intro hHeld
            refine takeO 0 (some 55) (v := ?v43) rfl rfl (by kernel_rfl) (by kernel_rfl) (by kernel_rfl) (Or.inl ⟨by rfl, ?y43⟩) hHeld ?r43
            case y43 => (intro w' hSw; (try dsimp only at hSw); go_simp; try with_reducible rfl)
            try simp only [Act.put, List.setIfInBounds_toArray, List.set_cons_zero, List.set_cons_succ]
            refine takeO 1 (some 56) (v := ?v44) rfl rfl (by kernel_rfl) (by kernel_rfl) (by kernel_rfl) (Or.inl ⟨by rfl, ?y44⟩) hHeld ?r44
            case y44 => (intro w' hSw; (try dsimp only at hSw); go_simp; try with_reducible rfl)
            try simp only [Act.put, List.setIfInBounds_toArray, List.set_cons_zero, List.set_cons_succ]
            refine takeO 2 (some 57) (v := ?v45) rfl rfl (by kernel_rfl) (by kernel_rfl) (by kernel_rfl) (Or.inl ⟨by rfl, ?y45⟩) hHeld ?r45
            case y45 => (intro w' hSw; (try dsimp only at hSw); go_simp; try with_reducible rfl)
            try simp only [Act.put, List.setIfInBounds_toArray, List.set_cons_zero, List.set_cons_succ]
            refine takeO 3 (some 58) (v := ?v46) rfl rfl (by kernel_rfl) (by kernel_rfl) (by kernel_rfl) (Or.inl ⟨by rfl, ?y46⟩) hHeld ?r46
            case y46 => (intro w' hSw; (try dsimp only at hSw); go_simp; try with_reducible rfl)
            try simp only [Act.put, List.setIfInBounds_toArray, List.set_cons_zero, List.set_cons_succ]
            refine takeO 4 (some 2) (v := ?v47) rfl rfl (by kernel_rfl) (by kernel_rfl) (by kernel_rfl) (Or.inl ⟨by rfl, ?y47⟩) hHeld ?r47
            case y47 => (intro w' hSw; (try dsimp only at hSw); go_simp; try with_reducible rfl)
            try simp only [Act.put, List.setIfInBounds_toArray, List.set_cons_zero, List.set_cons_succ]
            refine takeO 5 (some 3) (v := ?v48) rfl rfl (by kernel_rfl) (by kernel_rfl) (by kernel_rfl) (Or.inl ⟨by rfl, ?y48⟩) hHeld ?r48
            case y48 => (intro w' hSw; (try dsimp only at hSw); go_simp; try with_reducible rfl)
            try simp only [Act.put, List.setIfInBounds_toArray, List.set_cons_zero, List.set_cons_succ]
            refine wpAnyH_done (by kernel_rfl) (Only.on ?_) _
            go_wp2_with fail
            go_returns
            rw [HE.out]
            exact ⟨⟨_, _, _, rfl, MsAt.nil _ _⟩, hB7.out.trans (below_drewN _ _)⟩
        · rw [hrb] at hrest
          by_cases h8 : bs.length ≤ 1024
          · have hI8 : (bs.length : Int) ≤ 1024 := by omega
            go_wp2_with fail
            refine hrest.mono ?_; rintro e w6 ⟨rfl, hw⟩
            rw [hw]
            clear hw w6 hrest
            go_wp2_with fail
            refine (mustX HRX.out _).mono ?_; rintro e w7 ⟨rfl, hr7, hf7⟩
            rw [mst_true] at hr7
            by_cases hz : t.2 = 0
            · have ce := hr7.err
              rw [hz] at ce
              have hE : D = (ms, 0) := by
                rw [HDEC.out, HRR.out.1, if_neg (fun e => e hz), if_pos ⟨by rw [← HLT.out hz]; exact hrb, h8⟩, HRR.out.2 hz]
              have HE := hid hE
              have hB7 := hid (HBEL.out.trans (hf7.below HBEL.out.size (fun k hk => by have := HGE.out; omega)))
              have hM7 := hid ((HM.out.fr hf7 (fun k hk e => HNB.out (by rw [← e]; exact hk))).base HBW.out)
              clear hr7 hf7
              go_wp2_with fail
              go_returns
              rw [HE.out]
              exact ⟨⟨_, _, _, rfl, hM7.out⟩, hB7.out⟩
            · obtain ⟨E0, hE0v⟩ : ∃ E0 : Int, t.2 = E0 := ⟨_, rfl⟩
              have ce := hr7.err
              rw [hE0v] at ce
              have hE : D = ([], E0) := by rw [HDEC.out, HRR.out.1, if_pos hz, hE0v]
              have hE0 : E0 ≠ 0 := by rw [← hE0v]; exact hz
              have HE := hid hE
              have hB7 := hid (HBEL.out.trans (hf7.below HBEL.out.size (fun k hk => by have := HGE.out; omega)))
              have hne : (E0 == 0) = false := beq_eq_false_iff_ne.2 hE0
              have hne2 : (E0 != 0) = true := by simp [hE0]
              clear hr7 hf7
              go_wp2_with fail
              have cD : (w7.drewN 1).cell? ⟨b, 1, none⟩ = some (.int .i64 E0) := ce
              refine region_held (fun u => u.cell? ⟨b, 1, none⟩ = some (.int .i64 E0)) 6 rfl (by kernel_rfl) cD ?_
              intro hHeld
              refine takeO 0 (some 55) (v := ?v49) rfl rfl (by kernel_rfl) (by kernel_rfl) (by kernel_rfl) (Or.inl ⟨by rfl, ?y49⟩) hHeld ?r49
              case y49 => (intro w' hSw; (try dsimp only at hSw); go_simp; try with_reducible rfl)
              try simp only [Act.put, List.setIfInBounds_toArray, List.set_cons_zero, List.set_cons_succ]
              refine takeO 1 (some 56) (v := ?v50) rfl rfl (by kernel_rfl) (by kernel_rfl) (by kernel_rfl) (Or.inl ⟨by rfl, ?y50⟩) hHeld ?r50
              case y50 => (intro w' hSw; (try dsimp only at hSw); go_simp; try with_reducible rfl)
              try simp only [Act.put, List.setIfInBounds_toArray, List.set_cons_zero, List.set_cons_succ]
              refine takeO 2 (some 57) (v := ?v51) rfl rfl (by kernel_rfl) (by kernel_rfl) (by kernel_rfl) (Or.inl ⟨by rfl, ?y51⟩) hHeld ?r51
              case y51 => (intro w' hSw; (try dsimp only at hSw); go_simp; try with_reducible rfl)
              try simp only [Act.put, List.setIfInBounds_toArray, List.set_cons_zero, List.set_cons_succ]
              refine takeO 3 (some 58) (v := ?v52) rfl rfl (by kernel_rfl) (by kernel_rfl) (by kernel_rfl) (Or.inl ⟨by rfl, ?y52⟩) hHeld ?r52
              case y52 => (intro w' hSw; (try dsimp only at hSw); go_simp; try with_reducible rfl)
              try simp only [Act.put, List.setIfInBounds_toArray, List.set_cons_zero, List.set_cons_succ]
              refine takeO 4 (some 2) (v := ?v53) rfl rfl (by kernel_rfl) (by kernel_rfl) (by kernel_rfl) (Or.inl ⟨by rfl, ?y53⟩) hHeld ?r53
              case y53 => (intro w' hSw; (try dsimp only at hSw); go_simp; try with_reducible rfl)
              try simp only [Act.put, List.setIfInBounds_toArray, List.set_cons_zero, List.set_cons_succ]
              refine takeO 5 (some 3) (v := ?v54) rfl rfl (by kernel_rfl) (by kernel_rfl) (by kernel_rfl) (Or.inl ⟨by rfl, ?y54⟩) hHeld ?r54
              case y54 => (intro w' hSw; (try dsimp only at hSw); go_simp; try with_reducible rfl)
              try simp only [Act.put, List.setIfInBounds_toArray, List.set_cons_zero, List.set_cons_succ]
              refine wpAnyH_done (by kernel_rfl) (Only.on ?_) _
              go_wp2_with fail
              go_returns
              rw [HE.out]
              exact ⟨⟨_, _, _, rfl, MsAt.nil _ _⟩, hB7.out.trans (below_drewN _ _)⟩
          · have hI8 : ¬ (bs.length : Int) ≤ 1024 := by omega
            go_wp2_with fail
            refine hrest.mono ?_; rintro e w6 ⟨rfl, hw⟩
            rw [hw]
            clear hw w6 hrest
            go_wp2_with fail
            refine (mustX HRX.out _).mono ?_; rintro e w7 ⟨rfl, hr7, hf7⟩
            rw [show decide ((bs.length : Int) ≤ 1024) = false from decide_eq_false (by omega)] at hr7
            by_cases hz : t.2 = 0
            · obtain ⟨E0, hE0v⟩ : ∃ E0 : Int, 3 = E0 := ⟨_, rfl⟩
              have hmst : (mst t false).2 = E0 := by unfold mst; rw [if_pos ⟨rfl, hz⟩]; exact hE0v
              have ce := hr7.err
              rw [hmst] at ce
              have hE : D = ([], E0) := by
                rw [HDEC.out, HRR.out.1, if_neg (fun e => e hz), if_neg (fun e => by have h1 := e.1; rw [← HLT.out hz, hrb] at h1; first | (exact absurd h1 (by decide)) | exact h8 e.2), hE0v]
              have hE0 : E0 ≠ 0 := by omega
              have HE := hid hE
              have hB7 := hid (HBEL.out.trans (hf7.below HBEL.out.size (fun k hk => by have := HGE.out; omega)))
              have hne : (E0 == 0) = false := beq_eq_false_iff_ne.2 hE0
              have hne2 : (E0 != 0) = true := by simp [hE0]
              clear hr7 hf7
              go_wp2_with fail
              have cD : (w7.drewN 1).cell? ⟨b, 1, none⟩ = some (.int .i64 E0) := ce
              refine region_held (fun u => u.cell? ⟨b, 1, none⟩ = some (.int .i64 E0)) 6 rfl (by kernel_rfl) cD ?_
              intro hHeld
              refine takeO 0 (some 55) (v := ?v55) rfl rfl (by kernel_rfl) (by kernel_rfl) (by kernel_rfl) (Or.inl ⟨by rfl, ?y55⟩) hHeld ?r55
              case y55 => (intro w' hSw; (try dsimp only at hSw); go_simp; try with_reducible rfl)
              try simp only [Act.put, List.setIfInBounds_toArray, List.set_cons_zero, List.set_cons_succ]
              refine takeO 1 (some 56) (v := ?v56) rfl rfl (by kernel_rfl) (by kernel_rfl) (by kernel_rfl) (Or.inl ⟨by rfl, ?y56⟩) hHeld ?r56
              case y56 => (intro w' hSw; (try dsimp only at hSw); go_simp; try with_reducible rfl)
              try simp only [Act.put, List.setIfInBounds_toArray, List.set_cons_zero, List.set_cons_succ]
              refine takeO 2 (some 57) (v := ?v57) rfl rfl (by kernel_rfl) (by kernel_rfl) (by kernel_rfl) (Or.inl ⟨by rfl, ?y57⟩) hHeld ?r57
              case y57 => (intro w' hSw; (try dsimp only at hSw); go_simp; try with_reducible rfl)
              try simp only [Act.put, List.setIfInBounds_toArray, List.set_cons_zero, List.set_cons_succ]
              refine takeO 3 (some 58) (v := ?v58) rfl rfl (by kernel_rfl) (by kernel_rfl) (by kernel_rfl) (Or.inl ⟨by rfl, ?y58⟩) hHeld ?r58
              case y58 => (intro w' hSw; (try dsimp only at hSw); go_simp; try with_reducible rfl)
              try simp only [Act.put, List.setIfInBounds_toArray, List.set_cons_zero, List.set_cons_succ]
              refine takeO 4 (some 2) (v := ?v59) rfl rfl (by kernel_rfl) (by kernel_rfl) (by kernel_rfl) (Or.inl ⟨by rfl, ?y59⟩) hHeld ?r59
              case y59 => (intro w' hSw; (try dsimp only at hSw); go_simp; try with_reducible rfl)
              try simp only [Act.put, List.setIfInBounds_toArray, List.set_cons_zero, List.set_cons_succ]
              refine takeO 5 (some 3) (v := ?v60) rfl rfl (by kernel_rfl) (by kernel_rfl) (by kernel_rfl) (Or.inl ⟨by rfl, ?y60⟩) hHeld ?r60
              case y60 => (intro w' hSw; (try dsimp only at hSw); go_simp; try with_reducible rfl)
              try simp only [Act.put, List.setIfInBounds_toArray, List.set_cons_zero, List.set_cons_succ]
              refine wpAnyH_done (by kernel_rfl) (Only.on ?_) _
              go_wp2_with fail
              go_returns
              rw [HE.out]
              exact ⟨⟨_, _, _, rfl, MsAt.nil _ _⟩, hB7.out.trans (below_drewN _ _)⟩
            · obtain ⟨E0, hE0v⟩ : ∃ E0 : Int, t.2 = E0 := ⟨_, rfl⟩
              have hmst : (mst t false).2 = E0 := by unfold mst; rw [if_neg (fun e => hz e.2)]; exact hE0v
              have ce := hr7.err
              rw [hmst] at ce
              have hE : D = ([], E0) := by rw [HDEC.out, HRR.out.1, if_pos hz, hE0v]
              have hE0 : E0 ≠ 0 := by rw [← hE0v]; exact hz
              have HE := hid hE
              have hB7 := hid (HBEL.out.trans (hf7.below HBEL.out.size (fun k hk => by have := HGE.out; omega)))
              have hne : (E0 == 0) = false := beq_eq_false_iff_ne.2 hE0
              have hne2 : (E0 != 0) = true := by simp [hE0]
              clear hr7 hf7
              go_wp2_with fail
              have cD : (w7.drewN 1).cell? ⟨b, 1, none⟩ = some (.int .i64 E0) := ce
              refine region_held (fun u => u.cell? ⟨b, 1, none⟩ = some (.int .i64 E0)) 6 rfl (by kernel_rfl) cD ?_
              intro hHeld
              refine takeO 0 (some 55) (v := ?v61) rfl rfl (by kernel_rfl) (by kernel_rfl) (by kernel_rfl) (Or.inl ⟨by rfl, ?y61⟩) hHeld ?r61
              case y61 => (intro w' hSw; (try dsimp only at hSw); go_simp; try with_reducible rfl)
              try simp only [Act.put, List.setIfInBounds_toArray, List.set_cons_zero, List.set_cons_succ]
              refine takeO 1 (some 56) (v := ?v62) rfl rfl (by kernel_rfl) (by kernel_rfl) (by kernel_rfl) (Or.inl ⟨by rfl, ?y62⟩) hHeld ?r62
              case y62 => (intro w' hSw; (try dsimp only at hSw); go_simp; try with_reducible rfl)
              try simp only [Act.put, List.setIfInBounds_toArray, List.set_cons_zero, List.set_cons_succ]
              refine takeO 2 (some 57) (v := ?v63) rfl rfl (by kernel_rfl) (by kernel_rfl) (by kernel_rfl) (Or.inl ⟨by rfl, ?y63⟩) hHeld ?r63
              case y63 => (intro w' hSw; (try dsimp only at hSw); go_simp; try with_reducible rfl)
              try simp only [Act.put, List.setIfInBounds_toArray, List.set_cons_zero, List.set_cons_succ]
              refine takeO 3 (some 58) (v := ?v64) rfl rfl (by kernel_rfl) (by kernel_rfl) (by kernel_rfl) (Or.inl ⟨by rfl, ?y64⟩) hHeld ?r64
              case y64 => (intro w' hSw; (try dsimp only at hSw); go_simp; try with_reducible rfl)
              try simp only [Act.put, List.setIfInBounds_toArray, List.set_cons_zero, List.set_cons_succ]
              refine takeO 4 (some 2) (v := ?v65) rfl rfl (by kernel_rfl) (by kernel_rfl) (by kernel_rfl) (Or.inl ⟨by rfl, ?y65⟩) hHeld ?r65
              case y65 => (intro w' hSw; (try dsimp only at hSw); go_simp; try with_reducible rfl)
              try simp only [Act.put, List.setIfInBounds_toArray, List.set_cons_zero, List.set_cons_succ]
              refine takeO 5 (some 3) (v := ?v66) rfl rfl (by kernel_rfl) (by kernel_rfl) (by kernel_rfl) (Or.inl ⟨by rfl, ?y66⟩) hHeld ?r66
              case y66 => (intro w' hSw; (try dsimp only at hSw); go_simp; try with_reducible rfl)
              try simp only [Act.put, List.setIfInBounds_toArray, List.set_cons_zero, List.set_cons_succ]
              refine wpAnyH_done (by kernel_rfl) (Only.on ?_) _
              go_wp2_with fail
              go_returns
              rw [HE.out]
              exact ⟨⟨_, _, _, rfl, MsAt.nil _ _⟩, hB7.out.trans (below_drewN _ _)⟩
open Go.RowKit Go.Shelf
set_option linter.unusedVariables false
set_option linter.unusedSimpArgs false
attribute [local go_sem ↓] Go.wp_at_zero Go.wp_at_succ

theorem append_none (w : World) (a : Addr) (p : Option Addr) (cap : Nat) (ty : TypeId) : (Builtin.append_ #[25, 25] ty #[.slice (some a) 0 0, .slice p 0 cap]).run Try.prog w = .ok (.slice (some a) 0 0) w := by
  obtain ⟨i0, hi, hz0, hz1, hz2⟩ := info_parts info_u8
  cases p <;> simp [Builtin.append_, run_underlying Try.underlying25, sizeOf, typeInfo, hi, storeCells, Builtin.lenOf, Builtin.firstCells, go_sem]
theorem append_any (w : World) (p : Option Addr) (cap : Nat) (ys : List Nat) (ty : TypeId) (h : Arg w p ys.length cap fun i => .int .u8 ((ys.getD i 0 : Nat) : Int)) (hl : ys.length ≤ 100000) :
    ∃ v w', (Builtin.append_ #[25, 25] ty #[.slice (some ⟨w.heap.size, 0, none⟩) 0 0, .slice p ys.length cap]).run Try.prog (w.alloc (.cells #[] 5)) = .ok v w' ∧ Row w' w.heap.size v ys ∧ Below w.heap.size w w' := by
  by_cases h0 : ys.length = 0
  · have hy : ys = [] := List.length_eq_zero_iff.1 h0
    subst hy
    exact ⟨_, _, append_none _ _ p cap ty, ⟨own_empty w⟩, (Below.refl _ _).alloc (Nat.le_refl _) _⟩
  · obtain ⟨b, o, rfl, hb, hc⟩ := h.at (i := 0) (by omega)
    obtain ⟨i0, hi, hz0, hz1, hz2⟩ := info_parts info_u8
    have hnews : ∀ j u, (u8s ys)[j]? = some u → (w.alloc (.cells #[] 5)).cell? ((⟨b, o, none⟩ : Addr).add j) = some u := by
      intro j u hu
      obtain ⟨hj, rfl⟩ := List.getElem?_eq_some_iff.1 hu
      rw [u8s_get, Addr.add_lit]
      exact Lib.cell?_alloc_some _ (hc j (by rwa [u8s_length] at hj))
    obtain ⟨g, cap', w', hr, ho, hg, _, _⟩ := run_append_lies (P := Try.prog) (w.alloc (.cells #[] 5)) 25 ty w.heap.size 5 i0 (.int .u8 0) 1 1 Try.underlying25 hi hz0 hz1 hz2 rfl (by decide) _ 0 [] (own_empty w) ⟨b, o, none⟩ ys.length cap (u8s ys) (by rw [u8s_length]; omega) hnews (u8s_one ys) (by omega) (by unfold maxLen; omega) (by omega) (by simp) (w.heap.size + 1) (by simp)
    rw [Nat.zero_add, List.nil_append] at ho
    rw [Nat.zero_add] at hr
    exact ⟨_, w', hr, ⟨ho⟩, grown_below ((Below.refl w.heap.size w).alloc (Nat.le_refl _) _) hg (by intro k hk; cases hk; exact Nat.le_refl _)⟩
theorem min_isR {n k N : Nat} (h : min n k = N) (ts : Array TypeId) (t : TypeId) (W : World) : (Builtin.min_ ts t #[.int .i64 (n : Int), .int .i64 (k : Int)]).run Try.prog W = .ok (.int .i64 (N : Int)) W := by
  rw [run_min_int2]; split <;> (congr 2; omega)
theorem rowAtB {w : World} {B : Nat} {v : Value} {ys : List Nat} (h : Row w B v ys) {j : Nat} (hj : j < ys.length) :
    ∃ g cap, v = .slice (some ⟨g, 0, none⟩) ys.length cap ∧ (∀ i, i < ys.length → w.cell? ⟨g, i, none⟩ = some (.int .u8 ((ys.getD i 0 : Nat) : Int))) ∧ (∀ i, w.frozen? ⟨g, i, none⟩ = false) := by
  rcases h.own.2 with ⟨rfl, hl⟩ | ⟨g, cap, cur, rfl, hb, hg, h1, h2, h3, h4⟩
  · omega
  · refine ⟨g, cap, rfl, fun i hi => ?_, fun i => ?_⟩
    · rw [cell_of_row w g i cur 5 (0, 0) hg]
      have hi' : i < ys.length * 1 := by omega
      have : (u8s ys)[i]? = cur.toList[i]? := by rw [← h4, List.getElem?_take, if_pos hi']
      rw [List.getElem?_eq_getElem (by rw [u8s_length]; exact hi), u8s_get] at this
      simpa using this.symm
    · simp [World.frozen?, hg]
theorem rowSetB {w : World} {B g cap n : Nat} {ys : List Nat} (h : Row w B (.slice (some ⟨g, 0, none⟩) n cap) ys) (j y : Nat) : Row (w.setCell ⟨g, j, none⟩ (.int .u8 (y : Int))) B (.slice (some ⟨g, 0, none⟩) n cap) (ys.set j y) := by
  refine ⟨?_⟩
  have e : u8s (ys.set j y) = (u8s ys).set j (.int .u8 (y : Int)) := by simp [u8s, List.map_set]
  rw [e, List.length_set]
  refine ⟨by rw [List.length_set]; exact h.own.1, ?_⟩
  rcases h.own.2 with ⟨hn, _⟩ | ⟨g', cap', cur, hv, hb, hg, h2, h3, h4, h5⟩
  · cases hn
  · cases hv
    refine .inr ⟨g, cap, cur.setIfInBounds j (.int .u8 (y : Int)), rfl, hb, heap_set_same hg _, h2, h3, by simpa using h4, ?_⟩
    rw [Array.toList_setIfInBounds, List.take_set, h5]
set_option maxRecDepth 100000 in
set_option maxHeartbeats 4000000 in
theorem messageReads_walk (p : Option Addr) (n cap : Nat) (z : Nat → Int) (w : World) (h : Arg w p n cap fun i => .int .u8 (z i)) (hz : ∀ i, (Lit.int .u8 (z i)).wf = true) :
    Calls Try.prog 4 #[.slice p n cap] w fun e w' => e = .returned (.bool true) ∧ Below w.heap.size w w' := by
  have hle := h.le; have hmost := h.most
  unfold maxLen at hmost
  obtain ⟨bs, hbl, hby, hab⟩ := h.bytes hz (k := min n 1300) (by omega)
  have hsh := shownF w
  obtain ⟨M, hM⟩ : ∃ M, bs.length = M := ⟨_, rfl⟩
  have hmin : ∀ ts t W, (Builtin.min_ ts t #[.int .i64 (n : Int), .int .i64 1300]).run Try.prog W = .ok (.int .i64 (M : Int)) W := min_isR (n := n) (k := 1300) (N := M) (by omega)
  have hM13 : M ≤ 1300 := by omega
  have hMc : (M : Int) ≤ (cap : Int) := by omega
  have HAB := hid hab; have HBY := hid hby; have HM := hid hM
  clear h hz hab hby hbl hM
  go_enter Try.func4, Try.ntmps4
  go_wp2_with fail
  refine hsh.mono ?_; rintro e u1 ⟨rfl, hb1⟩
  obtain ⟨v1, u2, hr1, hrow1, hb2⟩ := append_any u1 p cap bs 25 (HAB.out.keep hb1) (by have := HM.out; omega)
  obtain ⟨p1, c1, rfl, ha1⟩ := hrow1.arg
  have hc1 := ha1.le; have hm1 := ha1.most
  unfold maxLen at hm1
  have hD := decodeF p1 c1 bs u2 ha1 HBY.out (by have := HM.out; omega)
  rw [HM.out] at hr1 hD hc1
  have hB2 := hid (btrans hb1 hb2)
  have HROW := hid hrow1
  have hlt1 : ∀ k, (Value.slice p1 bs.length c1).ownBlock = some k → w.heap.size ≤ k ∧ k < u2.heap.size := fun k hk => ⟨Nat.le_trans hb1.size (hrow1.own.lt k hk).1, (hrow1.own.lt k hk).2⟩
  have HLT := hid hlt1
  clear hsh hb1 hb2 hrow1 ha1 hlt1
  go_wp2_with (at_builtin; refine Lib.wpList_append_run _ rfl _ _ _ _ rfl _ _ rfl rfl _ _ hr1 ?_; clear hr1)
  refine hD.mono ?_; rintro e u3 ⟨⟨v3, q3, X3, rfl, hM3⟩, hb3⟩
  dsimp only
  obtain ⟨p3, c3, rfl, _, _⟩ := hM3.form
  have hB3 := hid (btrans hB2.out hb3)
  have cvb := conv_arg (HAB.out.keep hB3.out)
  have hD2 := refDecode bs u3 HBY.out (by have := HM.out; omega)
  rw [HM.out] at cvb
  obtain ⟨s, hs⟩ : ∃ s, str bs = s := ⟨_, rfl⟩
  rw [hs] at cvb hD2
  have HS := hid hs; have HM3 := hid hM3; have HB3' := hid hb3
  clear hD hM3 hb3 hs hB2
  go_wp2_with fail
  refine hD2.mono ?_; rintro e u4 ⟨⟨v4, q4, X4, rfl, hM4⟩, hb4⟩
  dsimp only
  obtain ⟨p4, c4, rfl, _, _⟩ := hM4.form
  have hB4 := hid (btrans hB3.out hb4)
  have cvb4 := conv_arg (HAB.out.keep hB4.out)
  have hrow4 := (HROW.out.below HB3'.out).below hb4
  have cvo4 := conv_row hrow4
  rw [HM.out, HS.out] at cvb4
  rw [HM.out, HS.out] at cvo4
  have hx3 := HM3.out.below hb4
  have HX3 := hid hx3; have HX4 := hid hM4; have HROW4 := hid hrow4
  have hu23 := HB3'.out.size
  have hu34 := hb4.size
  obtain ⟨ms, E, hdec⟩ : ∃ ms E, decS bs = (ms, E) := ⟨_, _, rfl⟩
  rw [hdec] at HX3 HX4
  simp only [hdec]
  dsimp only at HX3 HX4
  clear hD2 hM4 hb4 hrow4 hx3 HM3 HB3' HROW hB3 cvb hdec
  go_wp2_with fail
  go_loopw [10] (fun i wr => ∃ (k : Nat) (us : List Nat), i = .int .i64 (k : Int) ∧ k ≤ M ∧ us.length = M ∧ Row wr u1.heap.size (.slice p1 M c1) us ∧ Fr (fun g => (Value.slice p1 bs.length c1).ownBlock = some g) u4 wr) (fun i _ => M - (intOf i).toNat)
  case atStart => exact ⟨0, bs, rfl, Nat.zero_le _, HM.out, by rw [← HM.out]; exact HROW4.out, Fr.refl _ _⟩
  case round =>
    obtain ⟨k, us, rfl, hk, hul, hr4, hf4⟩ := hrel
    clear HROW4
    by_cases hlt : k < M
    · have i1 : (k : Int) < (M : Int) := by omega
      obtain ⟨g4, cap4, hv4, hcs, hfs⟩ := rowAtB hr4 (j := k) (by omega)
      cases hv4
      have hcl := hcs k (by omega)
      have hfl := hfs k
      have hr5 := hid (rowSetB hr4 k 63)
      have hf5 := hid (hf4.setCell (p := ⟨g4, k, none⟩) rfl (.int .u8 63))
      have hu5 : (us.set k 63).length = us.length := List.length_set
      clear hcs hfs hr4 hf4
      go_wp2_with fail
      go_roundw
      case rel => exact ⟨k + 1, _, by go_num, by omega, hu5, hr5.out, hf5.out⟩
      case measure => simp [intOf]; omega
    · obtain rfl : k = M := by omega
      have hy3 := HX3.out.fr hf4 (fun g hg e => by have h1 := (HX3.out.XB g hg).1; have h2 := (HLT.out g e).2; omega)
      have hy4 := HX4.out.fr hf4 (fun g hg e => by have h1 := (HX4.out.XB g hg).1; have h2 := (HLT.out g e).2; omega)
      obtain ⟨_, _, he3, hA3⟩ := hy3.argM
      cases he3
      obtain ⟨_, _, he4, hA4⟩ := hy4.argM
      cases he4
      have hsm := sameRowF hA3 hA4
      rw [decide_eq_true rfl] at hsm
      have hBr := hid (hB4.out.trans (hf4.below hB4.out.size (fun g hg => (HLT.out g hg).1)))
      clear hy3 hy4 hA3 hA4 hr4 hf4 HX3 HX4
      go_wp2_with fail
      refine hsm.mono ?_; rintro e u9 ⟨rfl, hb9⟩
      dsimp only
      have hB9 := hid (btrans hBr.out hb9)
      clear hsm hb9
      go_wp2_with fail
      go_returns
      exact ⟨rfl, hB9.out⟩
end Go.Proofs.Ytneaanmchachlaa
