/- Layer 7 (mail): Box[string]: the contracts. -/
import Derived.Test.YtllojhhplfdgkaaMlD
namespace Go.Proofs.Ytllojhhplfdgkaa
open Go.Conc Go.RowKit Go.Shelf
set_option linter.unusedVariables false
set_option linter.unusedSimpArgs false
attribute [local go_sem ↓] Go.wp_at_zero Go.wp_at_succ


def vS (x : ByteArray) : Value := .string x
theorem vS_one (xs : List ByteArray) : ∀ u ∈ xs.map vS, u.oneCell' = true := by
  intro u hu; obtain ⟨y, _, rfl⟩ := List.mem_map.1 hu; rfl
theorem elS : El 40 9 := by
  have h : (Try.prog.info? 9).map (fun i => (i.zero, i.size, i.bytes)) = some (some (.string ⟨#[]⟩), 1, 16) := by kernel_rfl
  obtain ⟨i0, hi, hz0, hz1, hz2⟩ := info_parts h
  exact ⟨Try.underlying40, i0, _, _, hi, hz0, hz1, hz2, rfl, by decide⟩
theorem mkS (n : Nat) (hn : n ≤ 4096) (w : World) : (Instr.makeChan 53 (.int .i64 (n : Int))).run Try.prog w = .ok (.chan (some w.heap.size)) (w.alloc (.chan n #[] false 0 0 false)) := by
  have h : (Try.prog.info? 56).map (·.bytes) = some 8 := by kernel_rfl
  obtain ⟨i, hi, hb⟩ := Option.map_eq_some_iff.1 h
  exact run_makeChan (P := Try.prog) (w := w) Try.underlying53 hi .i64 n (by omega) (by rw [hb]; omega)
set_option maxRecDepth 100000 in
theorem newS (m : Int) (w : World) :
    Calls Try.prog 19 #[.int .i64 m] w fun e w' => e = .returned (.pointer (some ⟨w.heap.size + 1, 0, none⟩)) ∧ w' = (w.alloc (.chan (room m) #[] false 0 0 false)).alloc (.cells #[.chan (some w.heap.size), .int .i64 0] 55) := by
  rcases room_is m with ⟨h1, h2⟩ | ⟨k, rfl, h1, h2, h3⟩ | ⟨h1, h2⟩
  · have hm := mkS 1 (by omega) w
    rw [show ((1 : Nat) : Int) = 1 from rfl] at hm
    rw [h2]
    go_enter Try.func19, Try.ntmps19
    go_wp2_with fail
    all_goals first | omega | skip
    all_goals (go_ret; exact ⟨rfl, rfl⟩)
  · have hm := mkS k (by omega) w
    rw [h3]
    have i1 : (1 : Int) ≤ (k : Int) := by omega
    have i2 : (k : Int) ≤ 4096 := by omega
    go_enter Try.func19, Try.ntmps19
    go_wp2_with fail
    all_goals first | omega | skip
    all_goals (go_ret; exact ⟨rfl, rfl⟩)
  · have hm := mkS 4096 (by omega) w
    rw [show ((4096 : Nat) : Int) = 4096 from rfl] at hm
    rw [h2]
    go_enter Try.func19, Try.ntmps19
    go_wp2_with fail
    all_goals first | omega | skip
    all_goals (go_ret; exact ⟨rfl, rfl⟩)
abbrev MBS (w : World) (S : Nat → Prop) (b c cap : Nat) (xs : List ByteArray) (lost : Nat) : Prop := MBox 55 9 w S b c cap (xs.map vS) lost
theorem putS {S : Nat → Prop} {b c cap lost : Nat} {xs : List ByteArray} {w : World} (h : MBS w S b c cap xs lost) (x : ByteArray) (hl : lost ≤ 1000000) :
    Calls Try.prog 20 #[.pointer (some ⟨b, 0, none⟩), .string x] w fun e w' => e = .returned (.bool (decide (xs.length < cap))) ∧ ∃ S', MBS w' S' b c cap (if xs.length < cap then xs ++ [x] else xs) (if xs.length < cap then lost else lost + 1) ∧ Fr S w w' ∧ Sub w S S' := by
  obtain ⟨s, r, ps, h1, h2, h3⟩ := h.ch
  have hlen : ps.length = xs.length := by have := congrArg List.length h2; simpa using this
  by_cases hr : xs.length < cap
  · rw [decide_eq_true hr, if_pos hr, if_pos hr]
    refine (putS_room b c cap s r (ptrs ps) lost x w h.obj h1 (by rw [ptrs_size]; omega)).mono ?_
    rintro e w' ⟨rfl, rfl⟩
    have hp := h.put (x := .string x) h1 h2 h3 (by simpa using hr)
    refine ⟨rfl, _, ?_, hp.2, fun k (hk : S k ∨ k = w.heap.size) => hk.imp id (fun e => by omega)⟩
    have e : (xs ++ [x]).map vS = xs.map vS ++ [.string x] := by rw [List.map_append]; rfl
    unfold MBS
    rw [e]
    exact hp.1
  · rw [decide_eq_false hr, if_neg hr, if_neg hr]
    refine (putS_full b c cap s r (ptrs ps) lost x w h.obj h1 (by rw [ptrs_size]; omega) (wrap_i64' (by omega) (by omega))).mono ?_
    rintro e w' ⟨rfl, rfl⟩
    have hp := h.lose (.string x)
    exact ⟨rfl, S, hp.1, hp.2, sub_self _ _⟩
theorem takeS {S : Nat → Prop} {b c cap lost : Nat} {x : ByteArray} {xs : List ByteArray} {w : World} (h : MBS w S b c cap (x :: xs) lost) :
    Calls Try.prog 23 #[.pointer (some ⟨b, 0, none⟩)] w fun e w' => e = .returned (.tuple #[.string x, .bool true]) ∧ MBS w' S b c cap xs lost ∧ Fr S w w' := by
  obtain ⟨s, r, ps, h1, h2, h3⟩ := h.ch
  rw [List.map_cons] at h2
  obtain ⟨p, ps, rfl⟩ : ∃ p qs, ps = p :: qs := by
    cases ps with
    | nil => simp at h2
    | cons p qs => exact ⟨p, qs, rfl⟩
  rw [List.map_cons] at h2
  obtain ⟨e1, e2⟩ := List.cons.inj h2
  have hx := (h3 p List.mem_cons_self).2.2
  rw [e1] at hx
  have hg : (ptrs (p :: ps)).getD 0 undef = .pointer (some ⟨p.1, 0, none⟩) := by simp [ptrs]
  refine (takeS_some b c cap s r p.1 (ptrs (p :: ps)) lost x w h.obj h1 (by rw [ptrs_size]; simp) hg hx).mono ?_
  rintro e w' ⟨rfl, rfl⟩
  have hp := MBox.take (x := vS x) (xs := xs.map vS) h h1 e2 h3
  exact ⟨rfl, hp.1, hp.2⟩
theorem takeNoS {S : Nat → Prop} {b c cap lost : Nat} {w : World} (h : MBS w S b c cap [] lost) :
    Calls Try.prog 23 #[.pointer (some ⟨b, 0, none⟩)] w fun e w' => e = .returned (.tuple #[.string ⟨#[]⟩, .bool false]) ∧ w' = w := by
  obtain ⟨s, r, ps, h1, h2, h3⟩ := h.ch
  have hp : ps = [] := by simpa using h2
  subst hp
  exact takeS_none b c cap s r lost w h.obj h1
theorem lenS {S : Nat → Prop} {b c cap lost : Nat} {xs : List ByteArray} {w : World} (h : MBS w S b c cap xs lost) :
    Calls Try.prog 21 #[.pointer (some ⟨b, 0, none⟩)] w fun e w' => e = .returned (.int .i64 (xs.length : Nat)) ∧ w' = w := by
  obtain ⟨s, r, ps, h1, h2, h3⟩ := h.ch
  have hlen : ps.length = xs.length := by have := congrArg List.length h2; simpa using this
  have c0 := h.cells.1
  have hl := fun ty => run_len_chan (P := Try.prog) 53 ty Try.underlying53 h1
  rw [ptrs_size, hlen] at hl
  clear h h1 h2 h3 hlen
  go_enter Try.func21, Try.ntmps21
  go_wp2_with fail
  go_ret
  exact ⟨rfl, rfl⟩
theorem lostS {S : Nat → Prop} {b c cap lost : Nat} {xs : List ByteArray} {w : World} (h : MBS w S b c cap xs lost) :
    Calls Try.prog 22 #[.pointer (some ⟨b, 0, none⟩)] w fun e w' => e = .returned (.int .i64 (lost : Nat)) ∧ w' = w := by
  have c0 := h.cells.2
  clear h
  go_enter Try.func22, Try.ntmps22
  go_wp2_with fail
  go_ret
  exact ⟨rfl, rfl⟩
set_option maxRecDepth 100000 in
set_option maxHeartbeats 1000000 in
theorem drainS {S : Nat → Prop} {b c cap lost : Nat} {xs : List ByteArray} {w : World} (h : MBS w S b c cap xs lost) (hcap : cap ≤ 4096) :
    Calls Try.prog 24 #[.pointer (some ⟨b, 0, none⟩)] w fun e w' => (∃ v, e = .returned v ∧ RowV 9 w' w.heap.size v (xs.map vS)) ∧ MBS w' S b c cap [] lost ∧ Fr S w w' := by
  have hxl : xs.length ≤ cap := by have := h.le; simpa using this
  obtain ⟨w1, hm, hrow, hb1⟩ := make_rowV elS xs.length (by omega) w
  have hl := lenS h
  have h1 := h.below hb1
  have hlt := h.lt
  obtain ⟨n, hn⟩ : ∃ n, xs.length = n := ⟨_, rfl⟩
  rw [hn] at hm hrow hl
  have HN := hid hn
  clear hn
  have H1 := hid h1; have HR := hid hrow; have HB1 := hid hb1; have HT := hid hlt
  clear h1 hrow hb1 h hlt
  go_enter Try.func24, Try.ntmps24
  go_wp2_with fail
  refine hl.mono ?_; rintro e w' ⟨rfl, hw⟩
  rw [hw]
  clear hw w' hl
  cases xs with
  | nil =>
    have htk := takeNoS H1.out
    go_wp2_with fail
    refine htk.mono ?_; rintro e w' ⟨rfl, hw⟩
    rw [hw]
    clear hw w' htk hm
    go_wp2_with fail
    go_loopw [3, 4, 5] (fun v _ ok wr => ok = .bool false ∧ RowV 9 wr w.heap.size v [] ∧ MBS wr S b c cap [] lost ∧ Fr S w wr) (fun _ _ _ _ => 0)
    case atStart => exact ⟨rfl, HR.out, H1.out, Fr.of_below _ HB1.out⟩
    case round =>
      obtain ⟨rfl, h2, h3, h4⟩ := hrel
      have H2 := hid h2; have H3 := hid h3; have H4 := hid h4
      clear h2 h3 h4
      go_wp2_with fail
      go_ret
      exact ⟨⟨_, rfl, H2.out⟩, H3.out, H4.out⟩
  | cons x zs =>
    have htk := takeS H1.out
    go_wp2_with fail
    refine htk.mono ?_; rintro e w2 ⟨rfl, h2, hf2⟩
    have hrow := HR.out.fr hf2 (fun k hk => HT.out k hk)
    have hf := (Fr.of_below S HB1.out).trans hf2 (fun _ _ e => e)
    have H2 := hid h2; have HR2 := hid hrow; have HF := hid hf
    clear htk hm h2 hrow hf HR H1 HB1 hf2
    go_wp2_with fail
    go_loopw [3, 4, 5] (fun v a ok wr => ∃ (ys us : List ByteArray), Fr S w wr ∧ MBS wr S b c cap us lost ∧ RowV 9 wr w.heap.size v (ys.map vS) ∧ ((∃ y, ok = .bool true ∧ a = vS y ∧ x :: zs = ys ++ y :: us) ∨ (ok = .bool false ∧ us = [] ∧ x :: zs = ys))) (fun v _ _ _ => 4096 - lenOf v)
    case atStart => exact ⟨[], zs, HF.out, H2.out, HR2.out, .inl ⟨x, rfl, rfl, rfl⟩⟩
    case round =>
      obtain ⟨ys, us, h3, h4, h5, hc⟩ := hrel
      rcases hc with ⟨y, rfl, rfl, he⟩ | ⟨rfl, rfl, he⟩
      · have hyl : ys.length + 1 + us.length = (x :: zs).length := by rw [he]; simp; omega
        have hsz := h3.size
        obtain ⟨p5, cap5, hv5, _, _⟩ := h5.form
        subst hv5
        rw [List.length_map] at h5 ⊢
        obtain ⟨v6, w6, hr6, h6, _, hv6, hf6⟩ := append_oneV elS (vS y) 40 h5 rfl hsz (by simp; omega)
        have hf6' := hf6 (fun k => w.heap.size ≤ k) (fun k hk => (h5.lt k hk).1)
        have h7 := h4.keep hf6' (fun k hk e => by have := HT.out k hk; omega)
        have hF7 : Fr S w w6 := ⟨hf6'.os.trans h3.os, hf6'.tape.trans h3.tape, hf6'.output.trans h3.output, Nat.le_trans h3.size hf6'.size, fun k hk hn => (hf6'.block k (Nat.lt_of_lt_of_le hk h3.size) (by omega)).trans (h3.block k hk hn)⟩
        have e6 : ys.map vS ++ [vS y] = (ys ++ [y]).map vS := by rw [List.map_append]; rfl
        rw [e6] at h6
        obtain ⟨p6, cap6, hv6', _, _⟩ := h6.form
        rw [show ((ys ++ [y]).map vS).length = ys.length + 1 by simp] at hv6'
        subst hv6'
        unfold vS at hr6
        have H6 := hid h6; have H7 := hid h7; have HF7 := hid hF7; have HE := hid he; have HYL := hid hyl
        clear h3 h4 h5 hf6 hf6' h6 h7 hF7 hv6 e6 he hyl
        unfold vS
        cases us with
        | nil =>
          have htk := takeNoS H7.out
          go_wp2_with (at_builtin; refine Lib.wpList_append_run _ rfl _ _ _ _ rfl _ _ rfl rfl _ _ hr6 ?_; clear hr6)
          refine htk.mono ?_; rintro e w' ⟨rfl, hw⟩
          rw [hw]
          clear hw w' htk
          go_wp2_with fail
          go_roundw
          case rel => exact ⟨ys ++ [y], [], HF7.out, H7.out, H6.out, .inr ⟨rfl, rfl, by rw [HE.out]⟩⟩
          case measure =>
            have := HYL.out
            simp [lenOf, Value.cells] at *
            omega
        | cons u us =>
          have htk := takeS H7.out
          go_wp2_with (at_builtin; refine Lib.wpList_append_run _ rfl _ _ _ _ rfl _ _ rfl rfl _ _ hr6 ?_; clear hr6)
          refine htk.mono ?_; rintro e w8 ⟨rfl, h8, hf8⟩
          have hr8 := H6.out.fr hf8 (fun k hk => HT.out k hk)
          have hF8 := HF7.out.trans hf8 (fun _ _ e => e)
          have H8 := hid h8; have HR8 := hid hr8; have HF8 := hid hF8
          clear htk h8 hf8 hr8 hF8
          go_wp2_with fail
          go_roundw
          case rel => exact ⟨ys ++ [y], us, HF8.out, H8.out, HR8.out, .inl ⟨u, rfl, rfl, by rw [HE.out]; simp⟩⟩
          case measure =>
            have := HYL.out
            simp [lenOf, Value.cells] at *
            omega
      · have H3 := hid h3; have H4 := hid h4; have H5 := hid h5
        clear h3 h4 h5
        go_wp2_with fail
        go_ret
        exact ⟨⟨_, rfl, by rw [he]; exact H5.out⟩, H4.out, H3.out⟩
end Go.Proofs.Ytllojhhplfdgkaa
