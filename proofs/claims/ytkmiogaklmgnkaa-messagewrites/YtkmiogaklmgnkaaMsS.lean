/- Layer 5 (message): the messages of bytes. -/
import Derived.Test.YtkmiogaklmgnkaaMsR
namespace Go.Proofs.Ytkmiogaklmgnkaa
open Go.RowKit Go.Shelf
set_option linter.unusedVariables false
set_option linter.unusedSimpArgs false
attribute [local go_sem ↓] Go.wp_at_zero Go.wp_at_succ

/-- What is read of bytes, and what is left. -/
def decR (bs : List Nat) : List Msg × (List Bool × Int) := (allP []).run Pg.rdS (unpack bs, 0)
/-- The messages of bytes, and the error. -/
def decS (bs : List Nat) : List Msg × Int :=
  if (decR bs).2.2 ≠ 0 then ([], (decR bs).2.2) else if restB (decR bs).2.1 = true ∧ bs.length ≤ 1024 then ((decR bs).1, 0) else ([], 3)
/-- What Decode answers. -/
def DecP (w : World) (ms : List Msg) (E : Int) (e : Ending) (w' : World) : Prop := (∃ v q X, e = .returned (.tuple #[v, .int .i64 E]) ∧ MsAt w' w.heap.size X v ms q) ∧ Below w.heap.size w w'
theorem bare_cells : msgC (bare 0) (.slice none 0 0) = #[.int .i64 0, .int .u16 0, .int .u16 0, .int .u8 0, .int .i8 0, .int .i8 0, .int .i64 0, .int .u16 0, .int .i64 0, .int .i64 0, .int .i64 0, .int .i64 0, .int .i64 0, .int .i64 0, .int .i64 0, .int .i64 0, .int .i64 0, .int .i64 0, .int .i64 0, .int .i64 0, .int .u32 0, .int .u32 0, .slice none 0 0] := rfl
/-- What a round of Decode keeps. -/
structure DcI (w : World) (b N : Nat) (t0 : List Bool × Int) (j : Nat) (v : Value) (ms : List Msg) (q : Nat → Value) (X S : Nat → Prop) (t : List Bool × Int) (wr : World) : Prop where
  at_ : MsAt wr w.heap.size X v ms q
  len : ms.length = j
  le : j ≤ N
  rd : rdAt b t S wr
  d : ∀ k, X k → ¬ S k
  f : ∀ k, S k → w.heap.size ≤ k
  bel : Below w.heap.size w wr
  run : (seqGo [] (N - j) ms).run Pg.rdS t = (seqGo [] N []).run Pg.rdS t0
theorem DcI.step {w : World} {b N : Nat} {t0 : List Bool × Int} {j : Nat} {v v' : Value} {ms : List Msg} {q : Nat → Value} {X S S' : Nat → Prop} {t : List Bool × Int} {wr u w' : World} {p : Option Addr} {c : Nat} (h : DcI w b N t0 j v ms q X S t wr) (hj : j < N)
    (hr : Row u wr.heap.size (.slice p ((carr (bare 0)).run Pg.rdS t).1.bytes.length c) ((carr (bare 0)).run Pg.rdS t).1.bytes) (hat : rdAt b ((carr (bare 0)).run Pg.rdS t).2 S' u) (hf : Fr S wr u) (hs : Sub wr S S') (ho : ∀ k, (Value.slice p ((carr (bare 0)).run Pg.rdS t).1.bytes.length c).ownBlock = some k → ¬ S' k)
    (hm : MsAt w' w.heap.size (fun k => X k ∨ (Value.slice p ((carr (bare 0)).run Pg.rdS t).1.bytes.length c).ownBlock = some k ∨ v'.ownBlock = some k) v' (ms ++ [((carr (bare 0)).run Pg.rdS t).1]) (snocQ q ms.length (.slice p ((carr (bare 0)).run Pg.rdS t).1.bytes.length c)))
    (hf2 : Fr (fun k => v.ownBlock = some k) u w') (hv : ∀ k, v'.ownBlock = some k → v.ownBlock = some k ∨ u.heap.size < k) :
    DcI w b N t0 (j + 1) v' (ms ++ [((carr (bare 0)).run Pg.rdS t).1]) (snocQ q ms.length (.slice p ((carr (bare 0)).run Pg.rdS t).1.bytes.length c)) (fun k => X k ∨ (Value.slice p ((carr (bare 0)).run Pg.rdS t).1.bytes.length c).ownBlock = some k ∨ v'.ownBlock = some k) S' ((carr (bare 0)).run Pg.rdS t).2 w' := by
  have hXS : ∀ k, X k → ¬ S' k := fun k hk e => by
    rcases hs k e with e | e
    · exact h.d k hk e
    · have := (h.at_.XB k hk).2; omega
  have hSlt := hat.lt
  have hrun := h.run
  rw [show N - j = (N - (j + 1)) + 1 by omega, seqGo, Pg.run_bind] at hrun
  refine ⟨hm, by rw [List.length_append, h.len]; rfl, hj, hat.keep hf2 (fun k hk e => hXS k (h.at_.vX k e) hk), fun k hk => ?_, fun k hk => ?_, ?_, hrun⟩
  · rcases hk with hk | hk | hk
    · exact hXS k hk
    · exact ho k hk
    · intro e
      rcases hv k hk with e2 | e2
      · exact hXS k (h.at_.vX k e2) e
      · have := hSlt k e; omega
  · rcases hs k hk with e | e
    · exact h.f k e
    · have := h.bel.size; omega
  · have h1 : Below w.heap.size w u := h.bel.trans (hf.below h.bel.size h.f)
    exact h1.trans (hf2.below h1.size (fun k hk => (h.at_.XB k (h.at_.vX k hk)).1))
set_option maxRecDepth 100000 in
set_option maxHeartbeats 2000000 in
theorem decodeF (p : Option Addr) (cap : Nat) (bs : List Nat) (w : World) (ha : Arg w p bs.length cap fun i => .int .u8 ((bs.getD i 0 : Nat) : Int)) (hby : ∀ y ∈ bs, y < 256) (hl : bs.length ≤ 100000) :
    Calls Try.prog 18 #[.slice p bs.length cap] w fun e w' => DecP w (decS bs).1 (decS bs).2 e w' := by
  have hle := ha.le; have hmost := ha.most
  unfold maxLen at hmost
  have hN := newReader p cap bs w ha hby hl
  have hCnt := countF
  obtain ⟨R, hR⟩ : ∃ R, decR bs = R := ⟨_, rfl⟩
  have hS : decS bs = if R.2.2 ≠ 0 then ([], R.2.2) else if restB R.2.1 = true ∧ bs.length ≤ 1024 then (R.1, 0) else ([], 3) := by rw [← hR]; rfl
  obtain ⟨D, hd⟩ : ∃ D, decS bs = D := ⟨_, rfl⟩
  rw [hd] at hS ⊢
  obtain ⟨ms0, E⟩ := D
  dsimp only
  have HS := hid hS; have HR := hid hR
  clear hS hR hd ha
  go_enter Try.func18, Try.ntmps18
  go_wp2_with fail
  refine hN.mono ?_
  rintro e u ⟨⟨rb, Sr, rfl, hrd, hfr⟩, hb⟩
  dsimp only
  have HRD := hid hrd; have HB := hid hb
  have hSlt := hrd.lt
  have hfr' := hfr.le
  clear hN hrd hb
  go_wp2_with fail
  have A := Bq.new u 77 #[.pointer (some ⟨rb, 0, none⟩), .int .i64 0]
  have hat : rdAt u.heap.size (unpack bs, 0) (fun k => Sr k ∨ k = u.heap.size) (u.alloc (.cells #[.pointer (some ⟨rb, 0, none⟩), .int .i64 0] 77)) :=
    ⟨rb, Sr, A, HRD.out.below ((Below.refl _ _).alloc (Nat.le_refl _) _), fun k hk => ⟨.inl hk, fun e => by have := hSlt k hk; omega⟩, .inr rfl, fun k hk => by
      rcases hk with hk | hk
      · have := hSlt k hk; simp; omega
      · simp; omega⟩
  have hb1 := HB.out.alloc HB.out.size (.cells #[.pointer (some ⟨rb, 0, none⟩), .int .i64 0] 77)
  have hzu := HB.out.size
  have HAT := hid hat
  clear A HRD hat HB
  refine (hCnt _).mono ?_
  rintro e u1 ⟨rfl, hb2⟩
  dsimp only
  have HB1 := hid (btrans hb1 hb2)
  have HAT1 := hid (HAT.out.keep (Fr.of_below (fun _ => False) hb2) (fun _ _ e => e))
  obtain ⟨B, hB⟩ : ∃ B, u.heap.size = B := ⟨_, rfl⟩
  rw [hB] at HAT1 hzu
  simp only [hB]
  have hHB := hid hB
  clear hb1 hb2 hCnt HAT hB hSlt
  unfold rmV
  go_wp2_with fail
  have hNum := rdNum 0 rCnt HAT1.out
  unfold rmV at hNum
  have hRun : R = (seqGo [] (Pg.rdS false (unpack bs, 0) 0 rCnt).1.toNat []).run Pg.rdS (Pg.rdS false (unpack bs, 0) 0 rCnt).2 := by rw [← HR.out]; rfl
  have hrng := rd_tight.rng false (unpack bs, 0) 0 rCnt 0 16 (by decide) (by decide)
  generalize Pg.rdS false (unpack bs, 0) 0 rCnt = x at *
  obtain ⟨x1, t0⟩ := x
  dsimp only at hNum hRun hrng
  obtain ⟨N, rfl⟩ : ∃ N : Nat, x1 = (N : Int) := ⟨x1.toNat, by omega⟩
  rw [Int.toNat_natCast] at hRun
  have hN16 : N ≤ 16 := by omega
  have HRun := hid hRun
  refine hNum.mono ?_
  rintro e u2 ⟨rfl, S2, hA2, hF2, hS2⟩
  dsimp only
  have hI : DcI w B N t0 0 (.slice none 0 0) [] (fun _ => .slice none 0 0) (fun _ => False) S2 t0 u2 :=
    ⟨MsAt.nil _ _, rfl, Nat.zero_le _, hA2, fun k hk => hk.elim, fun k hk => by
      rcases hS2 k hk with (e | e) | e
      · exact hfr' k e
      · omega
      · have := HB1.out.size; omega, HB1.out.trans (hF2.below HB1.out.size (fun k hk => by
      rcases hk with hk | hk
      · exact hfr' k hk
      · omega)), rfl⟩
  have HI := hid hI
  clear hI hA2 hF2 hS2 hNum HAT1 HB1 hRun hrng HR
  go_wp2_with fail
  go_loopw [5, 13] (fun l i wr => ∃ (j : Nat) (v : Value) (ms : List Msg) (q : Nat → Value) (X S : Nat → Prop) (t : List Bool × Int), i = .int .i64 (j : Int) ∧ l = v ∧ DcI w B N t0 j v ms q X S t wr) (fun _ i _ => N - (intOf i).toNat)
  case atStart => exact ⟨0, _, [], _, _, S2, t0, rfl, rfl, HI.out⟩
  case round =>
    obtain ⟨j, v, ms, q, X, S, t, rfl, hlv, hI⟩ := hrel
    obtain ⟨pl, cl, hvl, hll, hml⟩ := hI.at_.form
    subst hvl
    subst hlv
    unfold maxLen at hml
    by_cases hlt : j < N
    · have hbare : MOk (bare 0) := bare_ok 0
      have hC := carriedF (rdW B) (bare 0) none 0 wr hI.rd (Pg.all_true _ (fun _ => trivial) _ _ _) hbare (.inr trivial) ⟨Nat.le_refl _, by unfold maxLen; omega, .inl rfl⟩ (fun h0 => (h0 rfl).elim)
      dsimp only [rdW] at hC
      have hb0 : msgC (bare 0) (.slice none (bare 0).bytes.length 0) = #[.int .i64 0, .int .u16 0, .int .u16 0, .int .u8 0, .int .i8 0, .int .i8 0, .int .i64 0, .int .u16 0, .int .i64 0, .int .i64 0, .int .i64 0, .int .i64 0, .int .i64 0, .int .i64 0, .int .i64 0, .int .i64 0, .int .i64 0, .int .i64 0, .int .i64 0, .int .i64 0, .int .u32 0, .int .u32 0, .slice none 0 0] := rfl
      rw [hb0] at hC
      have hpush := fun (u : World) (p1 : Option Addr) (c1 : Nat) => MsAt.push (w := u) (B := w.heap.size) (X := X) (v := .slice pl ms.length cl) (ms := ms) (q := q) (m := ((carr (bare 0)).run Pg.rdS t).1) (p := p1) (c := c1) 22
      have hok := carr_ok rd_tight (bare 0) t
      have HI := hid hI
      have hln := hI.len
      have hstep := fun (v' : Value) (S' : Nat → Prop) (u w' : World) (p1 : Option Addr) (c1 : Nat) => hI.step (v' := v') (S' := S') (u := u) (w' := w') (p := p1) (c := c1) hlt
      generalize (carr (bare 0)).run Pg.rdS t = Y at *
      obtain ⟨m, t'⟩ := Y
      dsimp only at hC hpush hok hstep
      clear hI hb0
      go_wp2_with fail
      refine hC.mono ?_
      rintro e u3 ⟨v3, rfl, hrow, S3, hA3, hF3, hS3, hO3⟩
      dsimp only
      obtain ⟨p3, c3, rfl, _⟩ := hrow.arg
      have hz3 := HI.out.bel.size
      obtain ⟨v', w', hrun, hM', hF', hV'⟩ := hpush u3 p3 c3 (HI.out.at_.fr hF3 HI.out.d) (Nat.le_trans hz3 hF3.size) (hrow.base hz3) (fun k hk e => by have := (hrow.ge hk).1; have := (HI.out.at_.XB k (HI.out.at_.vX k e)).2; omega) hok (by omega)
      have HN := hid (hstep v' S3 u3 w' p3 c3 hrow hA3 hF3 hS3 hO3 hM' hF' hV')
      clear hrow hA3 hF3 hS3 hO3 hM' hF' hV' hpush hstep hC HI
      unfold msgC at hrun ⊢
      go_wp2_with (at_builtin; refine Lib.wpList_append_run _ rfl _ _ _ _ rfl _ _ rfl rfl _ _ hrun ?_; clear hrun)
      go_roundw
      case rel => exact ⟨j + 1, _, _, _, _, _, _, by go_num, rfl, HN.out⟩
      case measure => simp [intOf]; omega
    · have hNj : N - j = 0 := by have := hI.le; omega
      have hrun := hI.run
      rw [hNj, seqGo, Pg.run_ret, ← HRun.out] at hrun
      subst hrun
      have hS := HS.out
      obtain ⟨ts, te⟩ := t
      dsimp only at hS
      have hM := hI.at_; have hBl := hI.bel
      obtain ⟨rb2, Sr2, hq, hr2, hS2, hS3, hS4⟩ := hI.rd
      dsimp only at hq hr2
      have c0 := hq.cell (i := 0) rfl; have c1 := hq.cell (i := 1) rfl
      have HM := hid hM; have HB := hid hBl; have HQ := hid hq
      have hjn : ¬ (j : Int) < (N : Int) := by omega
      by_cases he : te = 0
      · subst he
        rw [if_neg (by simp)] at hS
        have hRest := restR Sr2 rb2 ts wr hr2
        clear hI hq hM hBl HRun HS
        go_wp2_with fail
        refine hRest.mono ?_
        rintro e u3 ⟨rfl, _, hb3⟩
        dsimp only
        have HM3 := hid (HM.out.below hb3); have HB3 := hid (btrans HB.out hb3)
        clear hRest hb3 HM HB c0 c1 HQ
        cases hrb : restB ts
        · rw [hrb, if_neg (by simp)] at hS
          cases hS
          go_wp2_with fail
          go_returns
          exact ⟨⟨_, _, _, rfl, MsAt.nil _ _⟩, HB3.out⟩
        · rw [hrb] at hS
          by_cases h8 : bs.length ≤ 1024
          · have hI8 : (bs.length : Int) ≤ 1024 := by omega
            rw [if_pos ⟨rfl, h8⟩] at hS
            cases hS
            go_wp2_with fail
            go_returns
            exact ⟨⟨_, _, _, rfl, HM3.out⟩, HB3.out⟩
          · have hI8 : ¬ (bs.length : Int) ≤ 1024 := by omega
            rw [if_neg (fun e => h8 e.2)] at hS
            cases hS
            go_wp2_with fail
            go_returns
            exact ⟨⟨_, _, _, rfl, MsAt.nil _ _⟩, HB3.out⟩
      · rw [if_pos he] at hS
        cases hS
        have hne : (E == 0) = false := by simp [he]
        clear hI hq hM hBl HRun HS
        go_wp2_with fail
        have HD := hid (HB.out.trans (below_drewN wr 1 |>.mono (by exact HB.out.size)))
        have cD : (wr.drewN 1).cell? ⟨B, 1, none⟩ = some (.int .i64 E) := c1
        refine region_held (fun u => u.cell? ⟨B, 1, none⟩ = some (.int .i64 E)) 6 rfl (by kernel_rfl) cD ?_
        intro hHeld
        refine takeO 0 (some 28) (v := ?v1) rfl rfl (by kernel_rfl) (by kernel_rfl) (by kernel_rfl) (Or.inl ⟨by rfl, ?y1⟩) hHeld ?r1
        case y1 => (intro w' hSw; (try dsimp only at hSw); go_simp; try with_reducible rfl)
        try simp only [Act.put, List.setIfInBounds_toArray, List.set_cons_zero, List.set_cons_succ]
        refine takeO 1 (some 29) (v := ?v2) rfl rfl (by kernel_rfl) (by kernel_rfl) (by kernel_rfl) (Or.inl ⟨by rfl, ?y2⟩) hHeld ?r2
        case y2 => (intro w' hSw; (try dsimp only at hSw); go_simp; try with_reducible rfl)
        try simp only [Act.put, List.setIfInBounds_toArray, List.set_cons_zero, List.set_cons_succ]
        refine takeO 2 (some 30) (v := ?v3) rfl rfl (by kernel_rfl) (by kernel_rfl) (by kernel_rfl) (Or.inl ⟨by rfl, ?y3⟩) hHeld ?r3
        case y3 => (intro w' hSw; (try dsimp only at hSw); go_simp; try with_reducible rfl)
        try simp only [Act.put, List.setIfInBounds_toArray, List.set_cons_zero, List.set_cons_succ]
        refine takeO 3 (some 31) (v := ?v4) rfl rfl (by kernel_rfl) (by kernel_rfl) (by kernel_rfl) (Or.inl ⟨by rfl, ?y4⟩) hHeld ?r4
        case y4 => (intro w' hSw; (try dsimp only at hSw); go_simp; try with_reducible rfl)
        try simp only [Act.put, List.setIfInBounds_toArray, List.set_cons_zero, List.set_cons_succ]
        refine takeO 4 (some 2) (v := ?v5) rfl rfl (by kernel_rfl) (by kernel_rfl) (by kernel_rfl) (Or.inl ⟨by rfl, ?y5⟩) hHeld ?r5
        case y5 => (intro w' hSw; (try dsimp only at hSw); go_simp; try with_reducible rfl)
        try simp only [Act.put, List.setIfInBounds_toArray, List.set_cons_zero, List.set_cons_succ]
        refine takeO 5 (some 3) (v := ?v6) rfl rfl (by kernel_rfl) (by kernel_rfl) (by kernel_rfl) (Or.inl ⟨by rfl, ?y6⟩) hHeld ?r6
        case y6 => (intro w' hSw; (try dsimp only at hSw); go_simp; try with_reducible rfl)
        try simp only [Act.put, List.setIfInBounds_toArray, List.set_cons_zero, List.set_cons_succ]
        refine wpAnyH_done (by kernel_rfl) (Only.on ?_) _
        go_wp2_with fail
        go_returns
        exact ⟨⟨_, _, _, rfl, MsAt.nil _ _⟩, HD.out⟩
end Go.Proofs.Ytkmiogaklmgnkaa
