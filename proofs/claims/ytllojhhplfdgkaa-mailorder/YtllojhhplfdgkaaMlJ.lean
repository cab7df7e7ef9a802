/- Layer 7 (mail): the walk of the law MailOrder. -/
import Derived.Test.YtllojhhplfdgkaaMlI
namespace Go.Proofs.Ytllojhhplfdgkaa
open Go.Conc Go.RowKit Go.Shelf
set_option linter.unusedVariables false
set_option linter.unusedSimpArgs false
attribute [local go_sem ↓] Go.wp_at_zero Go.wp_at_succ

theorem max_is {m Q : Int} (h : max m 1 = Q) (ts : Array TypeId) (t : TypeId) (W : World) : (Builtin.max_ ts t #[.int .i64 m, .int .i64 1]).run Try.prog W = .ok (.int .i64 Q) W := by
  rw [run_max_int2]; split <;> (congr 2; omega)
theorem KB.putFirst {B : Nat} {X : Nat → Prop} {w0 w : World} {b c R L : Nat} (h : KB B X w0 w b c R [] L) (hB : B ≤ w0.heap.size) (hR : 1 ≤ R) (hl : L ≤ 1000000) (x : ByteArray) :
    Calls Try.prog 20 #[.pointer (some ⟨b, 0, none⟩), .string x] w fun e w' => e = .returned (.bool true) ∧ KB B X w0 w' b c R [x] L := by
  obtain ⟨S, h1, h2, h3⟩ := h.own
  refine (putS h1 x hl).mono ?_
  rintro e w' ⟨rfl, S', h', hf, hs⟩
  have hBw : B ≤ w.heap.size := Nat.le_trans hB h.below.size
  have h0 : ([] : List ByteArray).length < R := by simp; omega
  rw [if_pos h0, if_pos h0] at h'
  rw [decide_eq_true h0]
  exact ⟨rfl, ⟨S', h', h2.step hs hBw, h3.step hs h.xlt⟩, Below.fr h.below hf h2 hBw, fun k hk => Nat.lt_of_lt_of_le (h.xlt k hk) hf.size⟩
/-- The box, and beside it the row of what found room. -/
structure KR (w0 w : World) (b c R : Nat) (s : Nat → ByteArray) (k M : Nat) (p : Option Addr) (q : Nat) : Prop where
  box : KB w0.heap.size (fun g => (Value.slice p M q).ownBlock = some g) w0 w b c R (kept s R k) (0 + (k - R))
  row : RowV 9 w w0.heap.size (.slice p M q) ((kept s R k).map vS)
  len : M = min k R
theorem KR.start {w0 w : World} {b c R : Nat} {s : Nat → ByteArray} (h : KB w0.heap.size (fun _ => False) w0 w b c R [] 0) : KR w0 w b c R s 0 0 none 0 := by
  refine ⟨?_, by rw [kept_zero]; exact rowV_nil _ _ _, by omega⟩
  rw [kept_zero, Nat.zero_sub]
  obtain ⟨S, h1, h2, h3⟩ := h.own
  exact ⟨⟨S, h1, h2, ⟨fun k _ e => by simp [Value.ownBlock] at e⟩⟩, h.below, fun k hk => by simp [Value.ownBlock] at hk⟩
theorem KR.putFull {w0 w : World} {b c R k M q : Nat} {s : Nat → ByteArray} {p : Option Addr} (h : KR w0 w b c R s k M p q) (hr : R ≤ k) (hl : k ≤ 1000) :
    Calls Try.prog 20 #[.pointer (some ⟨b, 0, none⟩), .string (s k)] w fun e w' => e = .returned (.bool false) ∧ KR w0 w' b c R s (k + 1) M p q := by
  refine (h.box.put (Nat.le_refl _) (by omega)).mono ?_
  rintro e w' ⟨rfl, hK, hkp⟩
  rw [decide_eq_false (by omega)]
  refine ⟨rfl, hK, ?_, by have := h.len; omega⟩
  rw [kept_full hr]
  exact h.row.keepX (fun _ e => e) hkp
/-- Behind the Put that found room, ahead of the append. -/
structure KH (w0 w : World) (b c R : Nat) (s : Nat → ByteArray) (k M : Nat) (p : Option Addr) (q : Nat) : Prop where
  box : KB w0.heap.size (fun g => (Value.slice p M q).ownBlock = some g) w0 w b c R (kept s R (k + 1)) (0 + (k + 1 - R))
  row : RowV 9 w w0.heap.size (.slice p M q) ((kept s R k).map vS)
  len : M = min k R
theorem KR.putRoom {w0 w : World} {b c R k M q : Nat} {s : Nat → ByteArray} {p : Option Addr} (h : KR w0 w b c R s k M p q) (hr : k < R) (hl : k ≤ 1000) :
    Calls Try.prog 20 #[.pointer (some ⟨b, 0, none⟩), .string (s k)] w fun e w' => e = .returned (.bool true) ∧ KH w0 w' b c R s k M p q := by
  refine (h.box.put (Nat.le_refl _) (by omega)).mono ?_
  rintro e w' ⟨rfl, hK, hkp⟩
  rw [decide_eq_true hr]
  exact ⟨rfl, hK, h.row.keepX (fun _ e => e) hkp, h.len⟩
theorem KH.append {w0 w : World} {b c R k M q : Nat} {s : Nat → ByteArray} {p : Option Addr} (h : KH w0 w b c R s k M p q) (hr : k < R) (hl : k ≤ 1000) :
    ∃ p' q' w', (Builtin.append_ #[40, 40] 40 #[.slice p M q, .slice (some ⟨w.heap.size, 0, none⟩) 1 1]).run Try.prog (w.alloc (.cells #[.string (s k)] 9)) = .ok (.slice p' (M + 1) q') w' ∧ KR w0 w' b c R s (k + 1) (M + 1) p' q' := by
  have hlen : ((kept s R k).map vS).length = M := by rw [List.length_map, kept_length, h.len]
  obtain ⟨v', w', hrun, h2, _, hat, hfr⟩ := append_oneV elS (vS (s k)) 40 h.row rfl h.box.below.size (by rw [hlen]; have := h.len; omega)
  have e6 : (kept s R k).map vS ++ [vS (s k)] = (kept s R (k + 1)).map vS := by rw [kept_room hr, List.map_append]; rfl
  rw [e6] at h2
  obtain ⟨p', q', hv', _, _⟩ := h2.form
  have hl2 : ((kept s R (k + 1)).map vS).length = M + 1 := by rw [← e6]; simp [hlen]
  rw [hl2] at hv'
  subst hv'
  refine ⟨p', q', w', hrun, ?_, h2, by have := h.len; omega⟩
  exact h.box.aside (hfr _ (fun _ e => e)) (fun g hg => ⟨hat g hg, (h2.lt g hg).2⟩) ⟨fun g hg => (h.row.lt g hg).1⟩ (Nat.le_refl _)
set_option maxRecDepth 100000 in
set_option maxHeartbeats 4000000 in
theorem mailOrder_walk (m : Int) (p : Option Addr) (n cap : Nat) (s : Nat → ByteArray) (w : World) (hm : (Lit.int .i64 m).wf = true) (h : Arg w p n cap fun i => .string (s i)) :
    Calls Try.prog 4 #[.int .i64 m, .slice p n cap] w fun e w' => e = .returned (.bool true) ∧ Below w.heap.size w w' := by
  have hle := h.le; have hmost := h.most
  unfold maxLen at hmost
  obtain ⟨R, hR⟩ : ∃ R, room m = R := ⟨_, rfl⟩
  have hR1 := room_pos m
  rw [hR] at hR1
  have HA := hid h
  have hsh := shown7 w
  clear h hm
  go_enter Try.func4, Try.ntmps4
  go_wp2_with fail
  refine hsh.mono ?_; rintro e w1 ⟨rfl, b1⟩
  have hn := newKB m w w1 _ rfl b1
  rw [hR] at hn
  clear hsh b1
  go_wp2_with fail
  refine hn.mono ?_; rintro e w2 ⟨b, c, rfl, hK⟩
  have HK := hid (KR.start (s := s) hK)
  clear hn hK
  go_wp2_with fail
  go_loopw [7, 8] (fun v i wr => ∃ (k M q7 : Nat) (p7 : Option Addr), v = .slice p7 M q7 ∧ i = .int .i64 (k : Int) ∧ k ≤ n ∧ k ≤ 200 ∧ KR w wr b c R s k M p7 q7) (fun _ i _ => 200 - (intOf i).toNat)
  case atStart => exact ⟨0, 0, 0, none, rfl, rfl, Nat.zero_le _, Nat.zero_le _, HK.out⟩
  case round =>
    obtain ⟨k, M, q7, p7, rfl, rfl, hkn, hk2, hK⟩ := hrel
    clear HK
    by_cases hlt : k < n ∧ k < 200
    · obtain ⟨g1, o1, rfl, hg1, hc1⟩ := (HA.out.keep hK.box.below).at hlt.1
      have c1 := hc1 k hlt.1
      have i1 : (k : Int) < (n : Int) := by omega
      have i2 : (k : Int) < 200 := by omega
      clear hc1
      by_cases hr : k < R
      · have hp := hK.putRoom hr (by omega)
        clear hK
        go_wp2_with fail
        refine hp.mono ?_; rintro e w3 ⟨rfl, hK⟩
        obtain ⟨g2, o2, he, hg2, hc2⟩ := (HA.out.keep hK.box.below).at hlt.1
        cases he
        have c2 := hc2 k hlt.1
        obtain ⟨p8, q8, w4, hrun, hK4⟩ := hK.append hr (by omega)
        have HK4 := hid hK4
        clear hp hK hc2 c1 hK4
        go_wp2_with (at_builtin; refine Lib.wpList_append_run _ rfl _ _ _ _ rfl _ _ rfl rfl _ _ hrun ?_; clear hrun)
        go_roundw
        case rel => exact ⟨k + 1, M + 1, q8, p8, rfl, by go_num, by omega, by omega, HK4.out⟩
        case measure => simp [intOf]; omega
      · have hp := hK.putFull (by omega) (by omega)
        clear hK
        go_wp2_with fail
        refine hp.mono ?_; rintro e w3 ⟨rfl, hK⟩
        have HK4 := hid hK
        clear hp hK c1
        go_wp2_with fail
        go_roundw
        case rel => exact ⟨k + 1, M, q7, p7, rfl, by go_num, by omega, by omega, HK4.out⟩
        case measure => simp [intOf]; omega
    · have hk : min n 200 = k := by omega
      have hmin : ∀ ts t W, (Builtin.min_ ts t #[.int .i64 (n : Int), .int .i64 200]).run Try.prog W = .ok (.int .i64 (k : Int)) W := min_is hk
      obtain ⟨Q, hQ⟩ : ∃ Q, max m 1 = Q := ⟨_, rfl⟩
      have hmax : ∀ ts t W, (Builtin.max_ ts t #[.int .i64 m, .int .i64 1]).run Try.prog W = .ok (.int .i64 Q) W := fun ts t W => max_is hQ ts t W
      have hmin2 : ∀ ts t W, (Builtin.min_ ts t #[.int .i64 Q, .int .i64 4096]).run Try.prog W = .ok (.int .i64 (R : Int)) W := fun ts t W => by
        rw [run_min_int2]
        have : (R : Int) = min Q 4096 := by rw [← hR, ← hQ]; unfold room; omega
        split <;> (congr 2; omega)
      have hM := hK.len
      have hmin3 : ∀ ts t W, (Builtin.min_ ts t #[.int .i64 (k : Int), .int .i64 (R : Int)]).run Try.prog W = .ok (.int .i64 (M : Int)) W := min_is hM.symm
      obtain ⟨L, hL⟩ : ∃ L, k - R = L := ⟨_, rfl⟩
      have hbox := hK.box
      have hrow := hK.row
      rw [hL, Nat.zero_add] at hbox
      have hlen := hbox.len
      rw [kept_length, ← hM] at hlen
      have hlost := hbox.lost
      have hw1 : (k : Int) - (M : Int) = (L : Int) := by omega
      have HBOX := hid hbox; have HROW := hid hrow
      have hMk : M ≤ k := by omega
      have hkR : min k R = M := hM.symm
      clear hK hM hL hR hk hQ hbox hrow
      by_cases hcn : k < n
      case' pos =>
        have i1 : (k : Int) < (n : Int) := by omega
        have i2 : ¬ (k : Int) < 200 := by omega
      case' neg =>
        have i1 : ¬ (k : Int) < (n : Int) := by omega
      all_goals (
        go_wp2_with fail
        refine hlen.mono ?_; rintro e w3 ⟨rfl, hw⟩
        rw [hw]
        clear hw w3 hlen
        go_wp2_with fail
        refine hlost.mono ?_; rintro e w3 ⟨rfl, hw⟩
        rw [hw]
        clear hw w3 hlost hmin hmin2 hmin3 hmax
        go_wp2_with fail
        go_loopw [11] (fun i wq => ∃ (u : Nat), i = .int .i64 (u : Int) ∧ u ≤ M ∧ KB w.heap.size (fun g => (Value.slice p7 M q7).ownBlock = some g) w wq b c R ((kept s R k).drop u) L ∧ RowV 9 wq w.heap.size (.slice p7 M q7) ((kept s R k).map vS)) (fun i _ => M - (intOf i).toNat)
        case atStart => exact ⟨0, rfl, Nat.zero_le _, HBOX.out, HROW.out⟩
        case round =>
          obtain ⟨u, rfl, hu, hK, hrow⟩ := hrel
          clear HBOX HROW
          by_cases hlt2 : u < M
          · rw [kept_drop (by omega)] at hK
            have htk := hK.take (Nat.le_refl _)
            have HROW := hid hrow
            have j1 : (u : Int) < (M : Int) := by omega
            have j2 : (u : Int) < (n : Int) := by omega
            clear hK hrow
            go_wp2_with fail
            refine htk.mono ?_; rintro e w4 ⟨rfl, hK, hkp⟩
            have hrow := HROW.out.keepX (fun _ e => e) hkp
            obtain ⟨g1, o1, he1, hg1, hc1⟩ := (HA.out.keep hK.below).at (i := u) (by omega)
            have c1 := hc1 u (by omega)
            have ha := hrow.argN (by rw [List.length_map, kept_length]; exact hkR) (f := fun i => .string (s i)) (fun i hi => by rw [List.getElem?_map, kept_get (by omega)]; rfl)
            obtain ⟨g2, o2, he2, hg2, hc2⟩ := ha.at hlt2
            have c2 := hc2 u hlt2
            have HK := hid hK; have HROW := hid hrow
            clear htk hK hkp hrow hc1 hc2 ha
            subst he1; subst he2
            go_wp2_with fail
            go_roundw
            case rel => exact ⟨u + 1, by go_num, by omega, HK.out, HROW.out⟩
            case measure => simp [intOf]; omega
          · obtain rfl : u = M := by omega
            rw [List.drop_eq_nil_of_le (by rw [kept_length]; omega)] at hK
            have htk := hK.takeNo
            have hpu := hK.putFirst (Nat.le_refl _) hR1.1 (by omega) ⟨#[97, 103, 97, 105, 110]⟩
            clear hK hrow
            go_wp2_with fail
            refine htk.mono ?_; rintro e w4 ⟨rfl, hw⟩
            rw [hw]
            clear hw w4 htk
            go_wp2_with fail
            refine hpu.mono ?_; rintro e w5 ⟨rfl, hK⟩
            have hln := hK.len
            have HB := hid hK.below
            clear hpu hK
            go_wp2_with fail
            refine hln.mono ?_; rintro e w6 ⟨rfl, hw⟩
            rw [hw]
            clear hw w6 hln
            go_wp2_with fail
            go_ret
            exact ⟨rfl, HB.out⟩)
end Go.Proofs.Ytllojhhplfdgkaa
