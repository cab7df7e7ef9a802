/- Layer 2 (ring): the walk of the law RingStops. -/
import Derived.Test.YtiejgkpjckjonaaRfD
namespace Go.Proofs.Ytiejgkpjckjonaa
open Go.RowKit Go.Shelf
set_option linter.unusedVariables false
attribute [local go_sem] Oper.semAt_some

theorem toI_lastOf_get (z : Nat → Int) {m k i : Nat} (h : i < min k m) : (toI (lastOf (fun i => .int .i64 (z i)) m k))[i]? = some (z (k - m + i)) := by
  unfold toI
  rw [List.getElem?_map, lastOf_get _ h]; rfl
theorem alli_lastOf (z : Nat → Int) (m k : Nat) : AllI (lastOf (fun i => .int .i64 (z i)) m k) := by
  intro i hi
  rw [lastOf_length] at hi
  have := lastOf_get (fun i => Value.int .i64 (z i)) hi
  exact ⟨z (k - m + i), (List.getElem?_eq_some_iff.1 this).2⟩
theorem pre_snoc {α : Type} {p e : List α} {x : α} (h : p <+: e) (hx : e[p.length]? = some x) : (p ++ [x]) <+: e := by
  obtain ⟨r, rfl⟩ := h
  rw [List.getElem?_append_right (Nat.le_refl _), Nat.sub_self] at hx
  cases r with
  | nil => simp at hx
  | cons y r => simp at hx; subst hx; exact ⟨r, by simp⟩
theorem pre_last {α : Type} {p e : List α} {x y : α} (h : (p ++ [x]) <+: e) (hy : e[p.length]? = some y) : x = y := by
  obtain ⟨r, rfl⟩ := h
  rw [List.append_assoc, List.getElem?_append_right (Nat.le_refl _), Nat.sub_self] at hy
  simpa using hy
/-- What a table has that was given these, from id 1 on. -/
def tab (f : Nat → Value) (k : Nat) : List (Nat × Value) := (List.range k).map fun i => (i + 1, f i)
theorem tab_length (f : Nat → Value) (k : Nat) : (tab f k).length = k := by simp [tab]
theorem tab_succ (f : Nat → Value) (k : Nat) : tab f (k + 1) = tab f k ++ [(k + 1, f k)] := by simp [tab, List.range_succ]
theorem tab_get (f : Nat → Value) {k i : Nat} (h : i < (tab f k).length) : (tab f k)[i] = (i + 1, f i) := by simp [tab]
theorem alln_tab (z : Nat → Int) (k : Nat) : AllN (tab (fun i => .int .i64 (z i)) k) := fun i hi => ⟨z i, by rw [tab_get]⟩

set_option maxRecDepth 100000 in
set_option maxHeartbeats 4000000 in
theorem ringStops_walk (p : Option Addr) (n cap : Nat) (z : Nat → Int) (a : Int) (w : World) (h : Arg w p n cap fun i => .int .i64 (z i)) (hz : ∀ i, (Lit.int .i64 (z i)).wf = true) (wf : (Lit.int .i64 a).wf = true) :
    Calls Try.prog 5 #[.slice p n cap, .int .i64 a] w fun e w' => e = .returned (.bool true) ∧ Below w.heap.size w w' := by
  obtain ⟨q, hq, hqe⟩ := b63_nat a
  have hle := h.le; have hmost := h.most
  unfold maxLen at hmost
  have H := hid h
  clear h hz wf
  refine (callsIn_wide (n := 9)).1 ?_
  refine callsIn_of_wp_marks Try.func5 rfl trivial ?_ rfl
  simp only [Try.ntmps5, List.size_toArray, List.length_cons, List.length_nil, Nat.reduceAdd, Nat.reduceSub, Array.replicate_succ, Array.replicate_zero, List.push_toArray, List.append_toArray, List.nil_append, List.cons_append]
  refine wpIn_wide.2 ?_
  go_wp2_with fail
  -- the three boxes
  have v0 := ((Vr.new w 22 (.slice p n cap)).alloc (.cells #[.int .i64 a] 3)).alloc (.cells #[.bool false] 4)
  have v1 := (Vr.new (w.alloc (.cells #[.slice p n cap] 22)) 3 (.int .i64 a)).alloc (.cells #[.bool false] 4)
  have v2 := Vr.new ((w.alloc (.cells #[.slice p n cap] 22)).alloc (.cells #[.int .i64 a] 3)) 4 (.bool false)
  have hB0 : Below w.heap.size w (((w.alloc (.cells #[.slice p n cap] 22)).alloc (.cells #[.int .i64 a] 3)).alloc (.cells #[.bool false] 4)) := (((Below.refl _ _).alloc (Nat.le_refl _) _).alloc (by simp) _).alloc (by simp; omega) _
  have hsz : (((w.alloc (.cells #[.slice p n cap] 22)).alloc (.cells #[.int .i64 a] 3)).alloc (.cells #[.bool false] 4)).heap.size = w.heap.size + 3 := by simp
  simp only [World.size_alloc] at v1 v2
  generalize ((w.alloc (.cells #[.slice p n cap] 22)).alloc (.cells #[.int .i64 a] 3)).alloc (.cells #[.bool false] 4) = W0 at *
  have HV0 := hid v0
  have HV1 := hid v1
  have HV2 := hid v2
  have HSZ := hid hsz
  clear v0 v1 v2 hsz
  refine (shown_any W0).mono ?_; rintro e w1 ⟨rfl, hB1⟩
  go_wp2_with fail
  refine (ringI_new 20 (by omega) (by omega) 20 rfl w1).mono ?_; rintro e w2 ⟨rfl, hR, b2⟩
  go_wp2_with fail
  refine (tabN_new 50 (by omega) (by omega) 50 rfl w2).mono ?_; rintro e w3 ⟨rfl, hT, b3⟩
  have e2 : w1.heap.size < w2.heap.size := hR.lt _ rfl
  replace hR := hR.below b3
  have hB3 := btrans (btrans hB1 b2) b3
  have hs1 := hB1.size
  have hsh : Sh W0.heap.size W0 w3 (fun k => k = w1.heap.size) (fun k => k = w2.heap.size) := ⟨hB3, hB3.size, ⟨fun k h1 h2 => by omega⟩, ⟨fun k h => by omega⟩, ⟨fun k h => by omega⟩⟩
  obtain ⟨b, hb⟩ : ∃ b, w1.heap.size = b := ⟨_, rfl⟩
  obtain ⟨t, ht⟩ : ∃ t, w2.heap.size = t := ⟨_, rfl⟩
  rw [hb] at hR hsh ⊢
  rw [ht] at hT hsh ⊢
  generalize (fun k => k = b) = S1 at hR hsh
  generalize (fun k => k = t) = S2 at hT hsh
  clear b2 b3 hB1 hB3 hs1 e2 hb ht w1 w2
  have u0 := HV0.out.below hsh.below HV0.out.lt
  have c0 := u0.cell; have f0 := u0.thaw
  have HR := hid hR; have HT := hid hT; have HSH := hid hsh
  clear hR hT hsh u0
  go_wp2_with fail
  case' inl => (generalize hN : (50 : Nat) = N; have hNc : N ≤ n ∧ N ≤ 50 ∧ N ≤ cap := by omega)
  case' inr => (obtain ⟨N, hN⟩ : ∃ N, n = N := ⟨_, rfl⟩; rw [hN]; have hNc : N ≤ n ∧ N ≤ 50 ∧ N ≤ cap := by omega)
  all_goals
    clear hN
    have hsz := HSZ.out
    have hnS : ¬ S1 w.heap.size ∧ ¬ S2 w.heap.size := ⟨fun e => by have := HSH.out.f1.le _ e; omega, fun e => by have := HSH.out.f2.le _ e; omega⟩
    have hset : Fr (fun k => k = w.heap.size) w3 (w3.setCell ⟨w.heap.size, 0, none⟩ (.slice p N cap)) := (Fr.refl (fun k => k = w.heap.size) _).setCell (p := ⟨w.heap.size, 0, none⟩) rfl _
    have hR4 := HR.out.keep hset (fun k hk e => hnS.1 (by rw [← e]; exact hk))
    have hT4 := HT.out.keep hset (fun k hk e => hnS.2 (by rw [← e]; exact hk))
    have v0 := (HV0.out.below HSH.out.below HV0.out.lt).set (.slice p N cap)
    have v1 := (HV1.out.below HSH.out.below HV1.out.lt).other (c := w.heap.size) (o := 0) (by omega) (.slice p N cap)
    have v2 := (HV2.out.below HSH.out.below HV2.out.lt).other (c := w.heap.size) (o := 0) (by omega) (.slice p N cap)
    have hBW : Below w.heap.size w (w3.setCell ⟨w.heap.size, 0, none⟩ (.slice p N cap)) := (hB0.trans (HSH.out.below.mono (by omega))).setCell (p := ⟨w.heap.size, 0, none⟩) (Nat.le_refl _) _
    have hz4 : w.heap.size + 3 ≤ (w3.setCell ⟨w.heap.size, 0, none⟩ (.slice p N cap)).heap.size := by have := HSH.out.below.size; have e := hset.size; omega
    have hsh4 : Sh (w.heap.size + 3) (w3.setCell ⟨w.heap.size, 0, none⟩ (.slice p N cap)) (w3.setCell ⟨w.heap.size, 0, none⟩ (.slice p N cap)) S1 S2 := ⟨Below.refl _ _, hz4, HSH.out.d, by rw [← hsz]; exact HSH.out.f1, by rw [← hsz]; exact HSH.out.f2⟩
    generalize w3.setCell ⟨w.heap.size, 0, none⟩ (.slice p N cap) = W4 at *
    have V0 := hid v0; have V1 := hid v1; have V2 := hid v2
    clear HR HT HSH HV0 HV1 HV2 HSZ hsz hnS hset v0 v1 v2 c0 f0 hB0 W0 w3
    go_loopw [8] (fun i wr => ∃ (k : Nat) (S1 S2 : Nat → Prop), i = .int .i64 k ∧ k ≤ N ∧ RingAt 82 3 wr S1 b 20 (lastOf (fun i => .int .i64 (z i)) 20 k) ∧ TableAt 88 90 2 wr S2 t 50 (tab (fun i => .int .i64 (z i)) k) k ∧ Sh (w.heap.size + 3) W4 wr S1 S2) (fun i _ => N - (intOf i).toNat)
    case atStart => exact ⟨0, S1, S2, rfl, Nat.zero_le _, by rw [lastOf_zero]; exact hR4, hT4, hsh4⟩
    case round =>
      obtain ⟨k, S1', S2', rfl, hk, hR5, hT5, hsh5⟩ := hrel
      clear hR4 hT4 hsh4
      have u0 := V0.out.below hsh5.below (by omega)
      have c0 := u0.cell
      by_cases hlt : k < N
      · have hki : (k : Int) < (N : Int) := by omega
        have hBr : Below w.heap.size w wr := hBW.trans (hsh5.below.mono (by omega))
        obtain ⟨ab, ao, rfl, _, hcs⟩ := (Arg.keep H.out hBr).at (i := k) (by omega)
        have c1 := hcs k (by omega)
        have hlen := lastOf_length (fun i => Value.int .i64 (z i)) 20 k
        have hP : Calls Try.prog 13 #[.pointer (some ⟨b, 0, none⟩), .int .i64 (z k)] wr fun e w' => (∃ v, e = .returned v) ∧ ∃ S', RingAt 82 3 w' S' b 20 (lastOf (fun i => .int .i64 (z i)) 20 (k + 1)) ∧ Fr S1' wr w' ∧ Sub wr S1' S' := by
          by_cases hk20 : k < 20
          · refine (pushI_room S1' b 20 _ (z k) wr hR5 (by rw [hlen]; omega)).mono ?_
            rintro e w' ⟨rfl, S', h1, h2, h3⟩
            rw [lastOf_room (fun i => .int .i64 (z i)) hk20] at h1
            exact ⟨⟨_, rfl⟩, S', h1, h2, h3⟩
          · refine (pushI_full S1' b 20 _ (z k) _ wr hR5 (by rw [hlen]; omega) (lastOf_head _ (by omega) (by omega))).mono ?_
            rintro e w' ⟨rfl, h1, h2⟩
            rw [lastOf_full (fun i => .int .i64 (z i)) (by omega) (by omega)] at h1
            exact ⟨⟨_, rfl⟩, S1', h1, h2, sub_self _ _⟩
        clear hcs hlen hR5
        go_wp2_with fail
        refine hP.mono ?_; rintro e w5 ⟨⟨v, rfl⟩, S3, hR6, hF6, hs6⟩
        have hT6 := hT5.keep hF6 hsh5.d.symm.no
        have hsh6 := (hsh5.first hF6 hs6 hT5.lt).swap
        have u1 := V0.out.below hsh6.below (by omega)
        have c2 := u1.cell
        have hBr6 : Below w.heap.size w w5 := hBW.trans (hsh6.below.mono (by omega))
        obtain ⟨ab2, ao2, hab, _, hcs⟩ := (Arg.keep H.out hBr6).at (i := k) (by omega)
        cases hab
        have c3 := hcs k (by omega)
        have hA := addN_room S2' t 50 k _ (z k) w5 hT6 (by rw [tab_length]; omega) (by omega)
        rw [← tab_succ (fun i => .int .i64 (z i))] at hA
        have HR6 := hid hR6
        clear hP hs6 hF6 hT5 hT6 hcs c0 c1 u0 u1 hsh5 hR6
        go_wp2_with fail
        refine hA.mono ?_; rintro e w6 ⟨rfl, S4, hT7, hF7, hs7⟩
        have hR7 := HR6.out.keep hF7 hsh6.d.symm.no
        have hsh7 := (hsh6.first hF7 hs7 HR6.out.lt).swap
        clear hA hF7 hs7 hsh6 HR6
        go_wp2_with fail
        go_roundw
        case rel => exact ⟨k + 1, S3, S4, by go_num, by omega, hR7, hT7, hsh7⟩
        case measure => simp [intOf]; omega
      · obtain rfl : k = N := by omega
        have hki : ¬ (k : Int) < (k : Int) := by omega
        have u1 := V1.out.below hsh5.below (by omega)
        have c2 := u1.cell; have f2 := u1.thaw
        have HR := hid hR5; have HT := hid hT5; have HSH := hid hsh5
        clear hR5 hT5 hsh5
        go_wp2_with fail
        -- the world ahead of the first range
        have hn1 : ∀ S : Nat → Prop, From (w.heap.size + 3) S → (∀ j, S j → j < wr.heap.size) → ∀ j, S j → ¬ j = w.heap.size + 1 := fun S hS _ j hj e => by have := hS.le j hj; omega
        have hset : Fr (fun j => j = w.heap.size + 1) wr ((wr.setCell ⟨w.heap.size + 1, 0, none⟩ (.int .i64 q)).alloc (.cells #[.int .i64 0] 3)) := ((Fr.refl (fun j => j = w.heap.size + 1) _).setCell (p := ⟨w.heap.size + 1, 0, none⟩) rfl _).alloc _
        have hR6 := HR.out.keep hset (hn1 S1' HSH.out.f1 HR.out.lt)
        have hT6 := HT.out.keep hset (hn1 S2' HSH.out.f2 HT.out.lt)
        have v0 := (u0.other (c := w.heap.size + 1) (o := 0) (by omega) (.int .i64 q)).alloc (.cells #[.int .i64 0] 3)
        have v1 := (u1.set (.int .i64 q)).alloc (.cells #[.int .i64 0] 3)
        have v2 := ((V2.out.below HSH.out.below (by omega)).other (c := w.heap.size + 1) (o := 0) (by omega) (.int .i64 q)).alloc (.cells #[.int .i64 0] 3)
        have va := Vr.new (wr.setCell ⟨w.heap.size + 1, 0, none⟩ (.int .i64 q)) 3 (.int .i64 0)
        have hzs : (wr.setCell ⟨w.heap.size + 1, 0, none⟩ (.int .i64 q)).heap.size = wr.heap.size := by simp [World.setCell]
        rw [hzs] at va
        have hB6 : Below w.heap.size w ((wr.setCell ⟨w.heap.size + 1, 0, none⟩ (.int .i64 q)).alloc (.cells #[.int .i64 0] 3)) := ((hBW.trans (HSH.out.below.mono (by omega))).setCell (p := ⟨w.heap.size + 1, 0, none⟩) (Nat.le_succ _) _).alloc (by rw [hzs]; have := HSH.out.below.size; omega) _
        have hA3 : w.heap.size + 3 ≤ wr.heap.size := by have := HSH.out.below.size; omega
        have hl1 := HR.out.lt
        have hl2 := HT.out.lt
        have hf1 := HSH.out.f1
        have hf2 := HSH.out.f2
        have hdj := HSH.out.d
        generalize (wr.setCell ⟨w.heap.size + 1, 0, none⟩ (.int .i64 q)).alloc (.cells #[.int .i64 0] 3) = W6 at *
        generalize wr.heap.size = A at *
        clear hset hn1 HR HT HSH u0 u1 c0 c2 f2 hzs V0 V1 V2 hBW hz4 hki hlt hk
        refine (rAllI _ W6).mono ?_; rintro e W7 ⟨rfl, hw7⟩
        have b7 : Below W6.heap.size W6 W7 := by rw [hw7]; exact (Below.refl _ _).alloc (Nat.le_refl _) _
        have hBn : Vr W7 W6.heap.size 24 (.pointer (some ⟨b, 0, none⟩)) := by rw [hw7]; exact Vr.new W6 _ _
        have hR7 := hR6.below b7
        have hT7 := hT6.below b7
        replace v0 := v0.below b7 v0.lt
        replace v1 := v1.below b7 v1.lt
        replace v2 := v2.below b7 v2.lt
        have hva := va.below b7 va.lt
        have hB7 := hB6.trans (b7.mono hB6.size)
        have hal := va.lt
        obtain ⟨Bn, hBne⟩ : ∃ Bn, W6.heap.size = Bn := ⟨_, rfl⟩
        rw [hBne] at hBn ⊢
        clear hw7 b7 hR6 hT6 va hB6 hBne
        obtain ⟨ex, hex⟩ : ∃ ex, toI (lastOf (fun i => .int .i64 (z i)) 20 k) = ex := ⟨_, rfl⟩
        have hexl : ex.length = min k 20 := by rw [← hex, toI_length, lastOf_length]
        have hexg : ∀ i, i < min k 20 → ex[i]? = some (z (k - 20 + i)) := fun i hi => by rw [← hex]; exact toI_lastOf_get z hi
        have hstops := rAllI_stops 8 (by decide) (fun j => j = A ∨ j = w.heap.size + 1 + 1) S1' Bn b 20 _ W7 hR7 (alli_lastOf z 20 k) hBn.cell hBn.lt (fun j hj => by rcases hj with rfl | rfl; exact hva.lt; exact v2.lt)
        rw [hex, lastOf_length] at hstops
        clear hex
        have HEX := hid hexg
        have HT7 := hid hT7
        have V0 := hid v0; have V1 := hid v1; have V2 := hid v2; have VA := hid hva; have VN := hid hBn
        clear hexg hR7 hT7 v0 v1 v2 hva hBn
        go_wp2_with fail
        refine wp_meet (fun D W => (w.heap.size ≤ D ∧ W.heap[D]? = some (.deferred (some []))) ∧ ∃ A1 : Nat, A1 = min (min q k) 20 ∧ Vr W A 3 (.int .i64 A1) ∧ Vr W (w.heap.size + 1 + 1) 4 (.bool false) ∧ Kc (fun j => j = A ∨ j = w.heap.size + 1 + 1) W7 W ∧ Below w.heap.size w W) ?_ ?_
        · refine (wpIn_wide (n := 9)).1 (wpIn_rangeFunc_ownF rfl (by decide) (gf := 43) (lb := #[.pointer (some ⟨Bn, 0, none⟩)]) rfl trivial (enters_of Try.func43 (by kernel_rfl) rfl) hstops Kc.trans (Kc.putObj _) (Below.refl _ _) (fun _ => rfl)
            (fun pre W => (pre <+: ex ∧ pre.length ≤ q) ∧ Vr W A 3 (.int .i64 (pre.length : Nat)) ∧ Vr W (w.heap.size + 1 + 1) 4 (.bool false) ∧ Kc (fun j => j = A ∨ j = w.heap.size + 1 + 1) W7 W ∧ Below w.heap.size w W)
            (fun c pre W => (c = .ret ∧ ¬ pre <+: ex) ∨ ((c = .exit 2 ∧ pre.length = q + 1) ∧ Vr W A 3 (.int .i64 (q : Nat)) ∧ Vr W (w.heap.size + 1 + 1) 4 (.bool false) ∧ Kc (fun j => j = A ∨ j = w.heap.size + 1 + 1) W7 W ∧ Below w.heap.size w W))
            (OwnFrom.and own_pure (OwnFrom.and own_vr (OwnFrom.and own_vr (OwnFrom.and own_kc (ownFrom_below (Nat.le_refl _) hB7.size)))))
            (fun c => OwnFrom.or own_pure (OwnFrom.and own_pure (OwnFrom.and own_vr (OwnFrom.and own_vr (OwnFrom.and own_kc (ownFrom_below (Nat.le_refl _) hB7.size))))))
            ⟨⟨List.nil_prefix, Nat.zero_le _⟩, VA.out, V2.out, Kc.refl _ _, hB7⟩ ?_ ?_ ?_ ?_ ?_)
          rotate_left
          · skip
            intro l x W K hK
            gi_wp2
            exact hK
          · skip
            rintro l pre x W ⟨⟨hpre, hpq⟩, va, v2, hkc, hBW⟩ hlen
            have u0 := V0.out.keepC hkc (by omega)
            have u1 := V1.out.keepC hkc (by omega)
            have c0 := u0.cell; have c1 := u1.cell; have ca := va.cell; have fa := va.thaw; have c2 := v2.cell; have f2 := v2.thaw
            by_cases hpe : pre.length = q
            · have e1 : ((pre.length : Int) == (q : Int)) = true := beq_iff_eq.2 (by omega)
              have hfin : Kc (fun j => j = A ∨ j = w.heap.size + 1 + 1) W7 W ∧ Below w.heap.size w W := ⟨hkc, hBW⟩
              have HPE := hid hpe
              clear hpe hstops
              gi_wp2
              exact ⟨KeepsOthers.refl _, .inr ⟨⟨rfl, by rw [List.length_append, HPE.out]; rfl⟩, by rw [← HPE.out]; exact va, v2, hfin.1, hfin.2⟩⟩
            · have e1 : ((pre.length : Int) == (q : Int)) = false := beq_eq_false_iff_ne.2 (by omega)
              obtain ⟨ab, ao, rfl, _, hcs⟩ := (Arg.keep H.out hBW).at (i := k - 20 + pre.length) (by omega)
              obtain ⟨d, hd⟩ : ∃ d, k - 20 = d := ⟨_, rfl⟩
              obtain ⟨e, he⟩ : ∃ e, d + pre.length = e := ⟨_, rfl⟩
              have c3 := hcs e (by omega)
              have hg := HEX.out pre.length hlen
              rw [hd, he] at hg
              obtain ⟨y, hy⟩ : ∃ y, z e = y := ⟨_, rfl⟩
              rw [hy] at c3 hg
              have i1 : (e : Int) < (k : Int) := by omega
              have HPN := hid hpe
              have HG := hid hg
              have hcase : (0 < (d : Int) ∧ (k : Int) - 20 = (d : Int) ∧ (d : Int) + (pre.length : Int) = (e : Int)) ∨ ((k : Int) - 20 ≤ 0 ∧ pre.length = e) := by omega
              have hgo : ∀ W', Vr W' A 3 (.int .i64 ((pre.length : Int) + 1)) → Vr W' (w.heap.size + 1 + 1) 4 (.bool false) → Kc (fun j => j = A ∨ j = w.heap.size + 1 + 1) W W' → Below w.heap.size w W' → x = y → ((pre ++ [x]) <+: ex ∧ (pre ++ [x]).length ≤ q) ∧ Vr W' A 3 (.int .i64 ((pre ++ [x]).length : Nat)) ∧ Vr W' (w.heap.size + 1 + 1) 4 (.bool false) ∧ Kc (fun j => j = A ∨ j = w.heap.size + 1 + 1) W7 W' ∧ Below w.heap.size w W' := by
                intro W' k1 k2 k3 k4 hx
                have el : (pre ++ [x]).length = pre.length + 1 := by simp
                refine ⟨⟨pre_snoc hpre (by rw [hx]; exact HG.out), by rw [el]; have := HPN.out; omega⟩, ?_, k2, hkc.trans k3, k4⟩
                rw [el, Int.natCast_add]; exact k1
              have hno : x ≠ y → ¬ (pre ++ [x]) <+: ex := fun hx hp => hx (pre_last hp HG.out)
              have HGO := hid hgo; have HNO := hid hno
              have HVA := hid va; have HV2 := hid v2; have HBW := hid hBW
              clear hcs hd hy he hpe hg hstops hgo hno va v2 hBW hkc
              rcases hcase with ⟨j1, j2, j3⟩ | ⟨j1, rfl⟩
              all_goals
                by_cases hx : x = y
                · have e2 : (x != y) = false := by rw [hx]; simp
                  have HX := hid hx
                  clear hx
                  gi_wp2
                  exact ⟨KeepsOthers.setCell _ _ _, (Kc.refl _ _).setCell (.inl rfl) _, HGO.out _ (HVA.out.set _) (HV2.out.other (by omega) _) ((Kc.refl _ _).setCell (.inl rfl) _) (HBW.out.setCell (p := ⟨A, 0, none⟩) (by show w.heap.size ≤ A; omega) _) HX.out⟩
                · have e2 : (x != y) = true := by simpa using hx
                  have HX := hid hx
                  clear hx
                  gi_wp2
                  exact ⟨KeepsOthers.setCell _ _ _, .inl ⟨rfl, HNO.out HX.out⟩⟩
          · rintro D ys W hD rfl ⟨⟨hpre, hpq⟩, va, v2, hkc, hBW⟩ hK
            exact ⟨.inl rfl, D, ⟨⟨Nat.le_trans hB7.size hD, hK⟩, ys.length, by omega, va, v2, hkc, hBW⟩, rfl⟩
          · rintro D c pre W hD hsp hix hK
            rcases hix with ⟨rfl, hn⟩ | ⟨⟨rfl, hl⟩, va, v2, hkc, hBW⟩
            · exact absurd hsp hn
            have hA1 : q = min (min q k) 20 := by have := hsp.length_le; omega
            have HF := hid (show (w.heap.size ≤ D ∧ W.heap[D]? = some (.deferred (some []))) ∧ ∃ A1 : Nat, A1 = min (min q k) 20 ∧ Vr W A 3 (.int .i64 A1) ∧ Vr W (w.heap.size + 1 + 1) 4 (.bool false) ∧ Kc (fun j => j = A ∨ j = w.heap.size + 1 + 1) W7 W ∧ Below w.heap.size w W from ⟨⟨Nat.le_trans hB7.size hD, hK⟩, q, hA1, va, v2, hkc, hBW⟩)
            exact wpIn_exit ⟨.inr rfl, D, HF.out, rfl⟩
        · rintro D W ⟨⟨hD0, hK⟩, A1, hA1', va, v2, hkc, hBW⟩
          have hm : Marks W [D] := fun D' hD' => by rw [List.mem_singleton] at hD'; rw [hD']; exact hK
          have hT := HT7.out.keepC hkc (fun j hj e => by have := hf2.le j hj; have := hl2 j hj; omega)
          have u0 := V0.out.keepC hkc (by omega)
          have u1 := V1.out.keepC hkc (by omega)
          have HVA := hid va; have HV2 := hid v2; have HM := hid hm; have HT := hid hT; have U0 := hid u0; have U1 := hid u1; have HBW := hid hBW
          have HA1 := hid hA1'
          clear hstops VA V2 V0 V1 VN HT7 HEX hkc hK hm hT u0 u1 va v2 hBW hexl hA1'
          go_wp2_with fail
          -- the world ahead of the second range
          have v0 := U0.out.alloc (.cells #[.int .i64 0] 3)
          have v1 := U1.out.alloc (.cells #[.int .i64 0] 3)
          have v2 := HV2.out.alloc (.cells #[.int .i64 0] 3)
          have va := HVA.out.alloc (.cells #[.int .i64 0] 3)
          have vb := Vr.new W 3 (.int .i64 0)
          have bW : Below W.heap.size W (W.alloc (.cells #[.int .i64 0] 3)) := (Below.refl _ _).alloc (Nat.le_refl _) _
          have hT6 := HT.out.below bW
          have hM6 := HM.out.below bW
          have hB6 := HBW.out.trans (bW.mono HBW.out.size)
          have hbA : A < W.heap.size := HVA.out.lt
          have hDl : D < W.heap.size := (Array.getElem?_eq_some_iff.1 (HM.out D (List.mem_singleton.2 rfl))).1
          have hl6 := HT.out.lt
          generalize W.alloc (.cells #[.int .i64 0] 3) = W8 at *
          generalize W.heap.size = Bb at *
          clear HVA HV2 HM HT U0 U1 HBW bW
          refine (tAllN _ W8).mono ?_; rintro e W9 ⟨rfl, hw9⟩
          have b9 : Below W8.heap.size W8 W9 := by rw [hw9]; exact (Below.refl _ _).alloc (Nat.le_refl _) _
          have hBn9 : Vr W9 W8.heap.size 43 (.pointer (some ⟨t, 0, none⟩)) := by rw [hw9]; exact Vr.new W8 _ _
          have hT9 := hT6.below b9
          have hM9 := hM6.below b9
          replace v0 := v0.below b9 v0.lt
          replace v1 := v1.below b9 v1.lt
          replace v2 := v2.below b9 v2.lt
          replace va := va.below b9 va.lt
          replace vb := vb.below b9 vb.lt
          have hB9 := hB6.trans (b9.mono hB6.size)
          obtain ⟨Cn, hCne⟩ : ∃ Cn, W8.heap.size = Cn := ⟨_, rfl⟩
          rw [hCne] at hBn9 ⊢
          clear hw9 b9 hT6 hM6 hB6 hCne
          obtain ⟨ey, hey⟩ : ∃ ey, toP (tab (fun i => .int .i64 (z i)) k) = ey := ⟨_, rfl⟩
          have heyl : ey.length = k := by rw [← hey, toP_length, tab_length]
          have heyg : ∀ i, i < k → ey[i]? = some ((i : Int) + 1, z i) := fun i hi => by
            rw [← hey]; unfold toP tab; simp [hi]; rfl
          have hstops := tAllN_stops Fence.wide 8 trivial rfl (by decide) (fun j => j = Bb ∨ j = w.heap.size + 1 + 1) S2' Cn t 50 k _ W9 hT9 (alln_tab z k) hBn9.cell hBn9.lt (fun j hj e => by have := hf2.le j hj; have := hl6 j hj; omega) (fun j hj => by rcases hj with rfl | rfl; exact vb.lt; exact v2.lt)
          rw [hey, tab_length] at hstops
          clear hey
          have HEY := hid heyg
          have V0 := hid v0; have V1 := hid v1; have V2 := hid v2; have VA := hid va; have VB := hid vb; have VN := hid hBn9; have HM9 := hid hM9
          clear heyg hT9 v0 v1 v2 va vb hBn9 hM9
          go_wp2_with fail
          refine wp_meet (fun D2 W => (W9.heap.size ≤ D2 ∧ W.heap[D2]? = some (.deferred (some [])) ∧ Marks W [D]) ∧ ∃ A2 : Nat, A2 = min q k ∧ Vr W Bb 3 (.int .i64 A2) ∧ Vr W (w.heap.size + 1 + 1) 4 (.bool false) ∧ Kc (fun j => j = Bb ∨ j = w.heap.size + 1 + 1) W9 W ∧ Below w.heap.size w W) ?_ ?_
          · refine (wpIn_wide (n := 9)).1 (wpIn_rangeFunc_ownF rfl (by decide) (gf := 45) (lb := #[.pointer (some ⟨Cn, 0, none⟩)]) rfl trivial (enters_of Try.func45 (by kernel_rfl) rfl) hstops Kc.trans (Kc.putObj _) (Below.refl _ _) (fun _ => rfl)
              (fun pre W => (pre <+: ey ∧ pre.length ≤ q) ∧ Vr W Bb 3 (.int .i64 (pre.length : Nat)) ∧ Vr W (w.heap.size + 1 + 1) 4 (.bool false) ∧ Kc (fun j => j = Bb ∨ j = w.heap.size + 1 + 1) W9 W ∧ Below w.heap.size w W ∧ Marks W [D])
              (fun c pre W => (c = .ret ∧ ¬ pre <+: ey) ∨ ((c = .exit 4 ∧ pre.length = q + 1) ∧ Vr W Bb 3 (.int .i64 (q : Nat)) ∧ Vr W (w.heap.size + 1 + 1) 4 (.bool false) ∧ Kc (fun j => j = Bb ∨ j = w.heap.size + 1 + 1) W9 W ∧ Below w.heap.size w W ∧ Marks W [D]))
              (OwnFrom.and own_pure (OwnFrom.and own_vr (OwnFrom.and own_vr (OwnFrom.and own_kc (OwnFrom.and (ownFrom_below (Nat.le_refl _) hB9.size) (own_marks (fun D' hD' => by rw [List.mem_singleton] at hD'; subst hD'; exact (Array.getElem?_eq_some_iff.1 (HM9.out D' (List.mem_singleton.2 rfl))).1)))))))
              (fun c => OwnFrom.or own_pure (OwnFrom.and own_pure (OwnFrom.and own_vr (OwnFrom.and own_vr (OwnFrom.and own_kc (OwnFrom.and (ownFrom_below (Nat.le_refl _) hB9.size) (own_marks (fun D' hD' => by rw [List.mem_singleton] at hD'; subst hD'; exact (Array.getElem?_eq_some_iff.1 (HM9.out D' (List.mem_singleton.2 rfl))).1))))))))
              ⟨⟨List.nil_prefix, Nat.zero_le _⟩, VB.out, V2.out, Kc.refl _ _, hB9, HM9.out⟩ ?_ ?_ ?_ ?_ ?_)
            rotate_left
            · intro l x W K hK
              gi_wp2
              exact hK
            · rintro l pre ⟨x1, x2⟩ W ⟨⟨hpre, hpq⟩, vb, v2, hkc, hBW, hM⟩ hlen
              have u0 := V0.out.keepC hkc (by omega)
              have u1 := V1.out.keepC hkc (by omega)
              have c0 := u0.cell; have c1 := u1.cell; have ca := vb.cell; have fa := vb.thaw; have c2 := v2.cell; have f2 := v2.thaw
              by_cases hpe : pre.length = q
              · have e1 : ((pre.length : Int) == (q : Int)) = true := beq_iff_eq.2 (by omega)
                have HPE := hid hpe
                have HF := hid (show Kc (fun j => j = Bb ∨ j = w.heap.size + 1 + 1) W9 W ∧ Below w.heap.size w W ∧ Marks W [D] from ⟨hkc, hBW, hM⟩)
                clear hpe hstops
                gi_wp2
                exact ⟨KeepsOthers.refl _, .inr ⟨⟨rfl, by rw [List.length_append, HPE.out]; rfl⟩, by rw [← HPE.out]; exact vb, v2, HF.out.1, HF.out.2.1, HF.out.2.2⟩⟩
              · have e1 : ((pre.length : Int) == (q : Int)) = false := beq_eq_false_iff_ne.2 (by omega)
                obtain ⟨ab, ao, rfl, _, hcs⟩ := (Arg.keep H.out hBW).at (i := pre.length) (by omega)
                have c3 := hcs pre.length (by omega)
                have hg := HEY.out pre.length (by omega)
                obtain ⟨y, hy⟩ : ∃ y, z pre.length = y := ⟨_, rfl⟩
                rw [hy] at c3 hg
                have i1 : (pre.length : Int) < (k : Int) := by omega
                have HPN := hid hpe
                have HG := hid hg
                have hgo : ∀ W', Vr W' Bb 3 (.int .i64 ((pre.length : Int) + 1)) → Vr W' (w.heap.size + 1 + 1) 4 (.bool false) → Kc (fun j => j = Bb ∨ j = w.heap.size + 1 + 1) W W' → Below w.heap.size w W' → Marks W' [D] → x1 = (pre.length : Int) + 1 ∧ x2 = y → ((pre ++ [(x1, x2)]) <+: ey ∧ (pre ++ [(x1, x2)]).length ≤ q) ∧ Vr W' Bb 3 (.int .i64 ((pre ++ [(x1, x2)]).length : Nat)) ∧ Vr W' (w.heap.size + 1 + 1) 4 (.bool false) ∧ Kc (fun j => j = Bb ∨ j = w.heap.size + 1 + 1) W9 W' ∧ Below w.heap.size w W' ∧ Marks W' [D] := by
                  rintro W' k1 k2 k3 k4 k5 ⟨rfl, rfl⟩
                  have el : ∀ x : Int × Int, (pre ++ [x]).length = pre.length + 1 := by simp
                  refine ⟨⟨pre_snoc hpre HG.out, by rw [el]; have := HPN.out; omega⟩, ?_, k2, hkc.trans k3, k4, k5⟩
                  rw [el, Int.natCast_add]; exact k1
                have hno : ¬ (x1 = (pre.length : Int) + 1 ∧ x2 = y) → ¬ (pre ++ [(x1, x2)]) <+: ey := fun hx hp => hx (by have := pre_last hp HG.out; cases this; exact ⟨rfl, rfl⟩)
                have HGO := hid hgo; have HNO := hid hno
                have HVB := hid vb; have HV2 := hid v2; have HBW := hid hBW; have HMM := hid hM
                clear hcs hy hpe hg hstops hgo hno vb v2 hBW hkc hM
                by_cases hx1 : x1 = (pre.length : Int) + 1
                · have e2 : (x1 != (pre.length : Int) + 1) = false := by rw [hx1]; simp
                  by_cases hx2 : x2 = y
                  · have e3 : (x2 != y) = false := by rw [hx2]; simp
                    have HX := hid (show x1 = (pre.length : Int) + 1 ∧ x2 = y from ⟨hx1, hx2⟩)
                    clear hx1 hx2
                    gi_wp2
                    exact ⟨KeepsOthers.setCell _ _ _, (Kc.refl _ _).setCell (.inl rfl) _, HGO.out _ (HVB.out.set _) (HV2.out.other (by omega) _) ((Kc.refl _ _).setCell (.inl rfl) _) (HBW.out.setCell (p := ⟨Bb, 0, none⟩) (by show w.heap.size ≤ Bb; omega) _) (HMM.out.others (KeepsOthers.setCell _ _ _)) HX.out⟩
                  · have e3 : (x2 != y) = true := by simpa using hx2
                    have HX := hid (show ¬ (x1 = (pre.length : Int) + 1 ∧ x2 = y) from fun h => hx2 h.2)
                    clear hx1 hx2
                    gi_wp2
                    exact ⟨KeepsOthers.setCell _ _ _, .inl ⟨rfl, HNO.out HX.out⟩⟩
                · have e2 : (x1 != (pre.length : Int) + 1) = true := by simpa using hx1
                  have HX := hid (show ¬ (x1 = (pre.length : Int) + 1 ∧ x2 = y) from fun h => hx1 h.1)
                  clear hx1
                  gi_wp2
                  exact ⟨KeepsOthers.setCell _ _ _, .inl ⟨rfl, HNO.out HX.out⟩⟩
            · rintro D2 ys W hD2 rfl ⟨⟨hpre, hpq⟩, vb, v2, hkc, hBW, hM⟩ hK
              exact ⟨.inl rfl, D2, ⟨⟨hD2, hK, hM⟩, ys.length, by omega, vb, v2, hkc, hBW⟩, rfl⟩
            · rintro D2 c pre W hD2 hsp hix hK
              rcases hix with ⟨rfl, hn⟩ | ⟨⟨rfl, hl⟩, vb, v2, hkc, hBW, hM⟩
              · exact absurd hsp hn
              have hA2 : q = min q k := by have := hsp.length_le; omega
              exact wpIn_exit ⟨.inr rfl, D2, ⟨⟨hD2, hK, hM⟩, q, hA2, vb, v2, hkc, hBW⟩, rfl⟩
          · rintro D2 W ⟨⟨hD2, hK2, hM⟩, A2, hA2, vb, v2, hkc, hBW⟩
            have u0 := V0.out.keepC hkc (by omega)
            have u1 := V1.out.keepC hkc (by omega)
            have ua := VA.out.keepC hkc (by omega)
            have c0 := u0.cell; have c1 := u1.cell; have ca := ua.cell; have cb := vb.cell; have c2 := v2.cell; have f2 := v2.thaw
            have hA1 := HA1.out
            have hcase : ((q : Int) ≤ (k : Int) ∧ (q : Int) ≤ 20 ∧ A1 = q ∧ A2 = q) ∨ ((q : Int) ≤ (k : Int) ∧ (20 : Int) < (q : Int) ∧ A1 = 20 ∧ A2 = q) ∨ ((k : Int) < (q : Int) ∧ (k : Int) ≤ 20 ∧ A1 = k ∧ A2 = k) ∨ ((k : Int) < (q : Int) ∧ (20 : Int) < (k : Int) ∧ A1 = 20 ∧ A2 = k) := by omega
            have hmm : Marks W [D2, D] := fun D' hD' => by
              rcases List.mem_cons.1 hD' with rfl | hD'
              · exact hK2
              · exact hM D' hD'
            have hDD : D < W9.heap.size := (Array.getElem?_eq_some_iff.1 (HM9.out D (List.mem_singleton.2 rfl))).1
            have HMM := hid hmm; have HV2 := hid v2; have HBW := hid hBW
            clear hstops V0 V1 V2 VA VB VN HM9 HEY hkc hK2 hM hmm u0 u1 ua vb v2 hBW hA1 hA2 HA1
            rcases hcase with ⟨k1, k2, rfl, rfl⟩ | ⟨k1, k2, rfl, rfl⟩ | ⟨k1, k2, rfl, rfl⟩ | ⟨k1, k2, rfl, rfl⟩
            all_goals
              go_wp2_with fail
              exact leaves_marks (rb := w.heap.size + 1 + 1) (t := 4) (fun W' hv => by simp [results, Try.results5, go_sem, hv.cell]) [D2, D] _ (HMM.out.others (KeepsOthers.setCell _ _ _)) (by simp; omega) (fun D' hD' => by rcases List.mem_cons.1 hD' with rfl | hD'; exact Nat.le_trans hB9.size hD2; rw [List.mem_singleton] at hD'; rw [hD']; exact hD0) (HV2.out.set _) (HBW.out.setCell (p := ⟨w.heap.size + 1 + 1, 0, none⟩) (by show w.heap.size ≤ w.heap.size + 1 + 1; omega) _)
end Go.Proofs.Ytiejgkpjckjonaa
