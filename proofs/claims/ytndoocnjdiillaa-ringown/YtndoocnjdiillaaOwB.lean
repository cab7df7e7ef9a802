/- Layer 2 (ring): the walk of the law RingOwn. -/
import Derived.Test.YtndoocnjdiillaaOwR
namespace Go.Proofs.Ytndoocnjdiillaa
open Go.RowKit Go.Shelf
set_option linter.unusedVariables false
attribute [local go_sem] Oper.semAt_some

set_option maxRecDepth 100000 in
set_option maxHeartbeats 4000000 in
theorem ringOwn_walk (p : Option Addr) (n cap : Nat) (z : Nat → Int) (w : World) (h : Arg w p n cap fun i => .int .i64 (z i)) (hz : ∀ i, (Lit.int .i64 (z i)).wf = true) :
    Calls Try.prog 8 #[.slice p n cap] w fun e w' => e = .returned (.bool true) ∧ Below w.heap.size w w' := by
  have hle := h.le; have hmost := h.most
  unfold maxLen at hmost
  have H := hid h
  clear h hz
  refine (callsIn_wide (n := 9)).1 ?_
  refine callsIn_of_wp_marks Try.func8 rfl trivial ?_ rfl
  simp only [Try.ntmps8, List.size_toArray, List.length_cons, List.length_nil, Nat.reduceAdd, Nat.reduceSub, Array.replicate_succ, Array.replicate_zero, List.push_toArray, List.append_toArray, List.nil_append, List.cons_append]
  refine wpIn_wide.2 ?_
  go_wp2_with fail
  -- the two boxes
  have v0 := (Vr.new w 22 (.slice p n cap)).alloc (.cells #[.bool false] 4)
  have v1 := Vr.new (w.alloc (.cells #[.slice p n cap] 22)) 4 (.bool false)
  have hB0 : Below w.heap.size w ((w.alloc (.cells #[.slice p n cap] 22)).alloc (.cells #[.bool false] 4)) := ((Below.refl _ _).alloc (Nat.le_refl _) _).alloc (by simp) _
  have hsz : ((w.alloc (.cells #[.slice p n cap] 22)).alloc (.cells #[.bool false] 4)).heap.size = w.heap.size + 2 := by simp
  simp only [World.size_alloc] at v1
  generalize (w.alloc (.cells #[.slice p n cap] 22)).alloc (.cells #[.bool false] 4) = W0 at *
  have V0 := hid v0
  have V1 := hid v1
  have HSZ := hid hsz
  clear v0 v1 hsz
  refine (shown_any W0).mono ?_; rintro e w1 ⟨rfl, hB1⟩
  go_wp2_with fail
  refine (ringI_new 5 (by omega) (by omega) 5 rfl w1).mono ?_; rintro e w2 ⟨rfl, r1, b1⟩
  go_wp2_with fail
  refine (ringS_new 5 (by omega) (by omega) 5 rfl w2).mono ?_; rintro e w3 ⟨rfl, r2, b2⟩
  go_wp2_with fail
  refine (tabN_new 50 (by omega) (by omega) 50 rfl w3).mono ?_; rintro e w4 ⟨rfl, r3, b3⟩
  go_wp2_with fail
  refine (tnewP w4 (fo z)).mono ?_; rintro e w5 ⟨rfl, r4, b4⟩
  have hOs := o4_new (z := z) (B := w.heap.size + 2) (w := W0) (by rw [← HSZ.out]; exact hB1) (by rw [← HSZ.out]; exact hB1.size) r1 b1 r2 b2 r3 b3 r4 b4
  generalize w1.heap.size = a at hOs ⊢
  generalize w2.heap.size = b at hOs ⊢
  generalize w3.heap.size = t at hOs ⊢
  generalize w4.heap.size = u at hOs ⊢
  clear r1 b1 r2 b2 r3 b3 r4 b4 hB1 w1 w2 w3 w4
  go_wp2_with fail
  go_loopw [8] (fun i wr => ∃ k : Nat, i = .int .i64 k ∧ k ≤ n ∧ k ≤ 40 ∧ O4 z (w.heap.size + 2) W0 wr a b t u ((k + 1) / 2) (k / 2) ((k + 1) / 2) (k / 2)) (fun i _ => 40 - (intOf i).toNat)
  case atStart => exact ⟨0, rfl, Nat.zero_le _, Nat.zero_le _, hOs⟩
  case round =>
    obtain ⟨k, rfl, hkn, hk4, hO⟩ := hrel
    clear hOs
    have u0 := V0.out.below hO.below (by omega)
    have c0 := u0.cell
    by_cases hlt : k < n ∧ k < 40
    · have i1 : (k : Int) < (n : Int) := by omega
      have i2 : (k : Int) < 40 := by omega
      have hBr : Below w.heap.size w wr := hB0.trans (hO.below.mono (by omega))
      obtain ⟨ab, ao, rfl, _, hcs⟩ := (Arg.keep H.out hBr).at (i := k) (by omega)
      have c1 := hcs k (by omega)
      clear hcs
      obtain ⟨j, hj⟩ : ∃ j, k / 2 = j := ⟨_, rfl⟩
      have i3 : (k : Int) / 2 = (j : Int) := by omega
      by_cases hev : k % 2 = 0
      · have i4 : (k : Int) % 2 = 0 := by omega
        have e1 : (k + 1) / 2 = j := by omega
        rw [e1, hj] at hO
        have HZ := hid (show z k = z (2 * j) by rw [show k = 2 * j by omega])
        have hP := hO.pushI HZ.out
        clear hO
        go_wp2_with fail
        refine hP.mono ?_; rintro e w5 ⟨⟨v, rfl⟩, hO⟩
        have u1 := V0.out.below hO.below (by omega)
        have c2 := u1.cell
        have hBr6 : Below w.heap.size w w5 := hB0.trans (hO.below.mono (by omega))
        obtain ⟨ab2, ao2, hab, _, hcs⟩ := (Arg.keep H.out hBr6).at (i := k) (by omega)
        cases hab
        have c3 := hcs k (by omega)
        have hA := hO.addN HZ.out (by omega)
        have i5 : ((j + 1 : Nat) : Int) = (j : Int) + 1 := by omega
        clear hP hcs c0 c1 u0 u1 hO HZ
        go_wp2_with fail
        refine hA.mono ?_; rintro e w6 ⟨rfl, hO⟩
        clear hA
        go_wp2_with fail
        go_roundw
        case rel => exact ⟨k + 1, by go_num, by omega, by omega, by rw [show (k + 1 + 1) / 2 = j + 1 by omega, show (k + 1) / 2 = j by omega]; exact hO⟩
        case measure => simp [intOf]; omega
      · have i4 : (k : Int) % 2 = 1 := by omega
        have e1 : (k + 1) / 2 = j + 1 := by omega
        rw [e1, hj] at hO
        have HZ := hid (show z k = z (2 * j + 1) by rw [show k = 2 * j + 1 by omega])
        have hP := hO.pushS
        clear hO
        go_wp2_with fail
        refine hP.mono ?_; rintro e w5 ⟨⟨v, rfl⟩, hO⟩
        have u1 := V0.out.below hO.below (by omega)
        have c2 := u1.cell
        have hBr6 : Below w.heap.size w w5 := hB0.trans (hO.below.mono (by omega))
        obtain ⟨ab2, ao2, hab, _, hcs⟩ := (Arg.keep H.out hBr6).at (i := k) (by omega)
        cases hab
        have c3 := hcs k (by omega)
        have hA := hO.addP (x := (k : Int)) (by omega) HZ.out (by omega)
        have i5 : ((j + 1 : Nat) : Int) = (j : Int) + 1 := by omega
        clear hP hcs c0 c1 u0 u1 hO HZ
        go_wp2_with fail
        refine hA.mono ?_; rintro e w6 ⟨rfl, hO⟩
        clear hA
        go_wp2_with fail
        go_roundw
        case rel => exact ⟨k + 1, by go_num, by omega, by omega, by rw [show (k + 1 + 1) / 2 = j + 1 by omega, show (k + 1) / 2 = j + 1 by omega]; exact hO⟩
        case measure => simp [intOf]; omega
    · obtain ⟨e, he⟩ : ∃ e, (k + 1) / 2 = e := ⟨_, rfl⟩
      obtain ⟨o, ho⟩ : ∃ o, k / 2 = o := ⟨_, rfl⟩
      have j1 : ((k : Int) + 1) / 2 = (e : Int) := by omega
      have j2 : (k : Int) / 2 = (o : Int) := by omega
      rw [he, ho] at hO
      have hBr : Below w.heap.size w wr := hB0.trans (hO.below.mono (by omega))
      have u1 := V1.out.below hO.below (by omega)
      have hwl : w.heap.size + 2 ≤ wr.heap.size := hO.le
      by_cases hcn : k < n
      case' pos =>
        obtain rfl : k = 40 := by omega
        obtain rfl : e = 20 := by omega
        obtain rfl : o = 20 := by omega
        have i4 : (40 : Int) < (n : Int) := by omega
        have l1 := hO.lenI (k := 5) rfl
        have l2 := hO.lenS (k := 5) rfl
        have l3 := hO.tlenN
        have l4 := hO.tlenP
        obtain ⟨S, hPT, hF⟩ := hO.last
        obtain ⟨K, hK⟩ : ∃ K, 20 = K := ⟨_, rfl⟩
        rw [hK] at hPT
        have hKn : 2 * K ≤ n ∧ K ≤ 50 := by omega
        clear hK j1 j2
      case' neg =>
        obtain rfl : n = k := by omega
        have i1 : ¬ (n : Int) < (n : Int) := by omega
        have i3 : (n : Int) ≤ 40 := by omega
        have l3 := hO.tlenN
        have l4 := hO.tlenP
        obtain ⟨S, hPT, hF⟩ := hO.last
        obtain ⟨K, hK⟩ : ∃ K, o = K := ⟨_, rfl⟩
        have hKn : 2 * K ≤ n ∧ K ≤ 50 := by omega
        rw [hK] at hPT
        clear hK
        by_cases he5 : e ≤ 5
        case' pos =>
          have l1 := hO.lenI (k := e) (by omega)
          have l2 := hO.lenS (k := o) (by omega)
          have m1 : (e : Int) ≤ 5 := by omega
          have m2 : (o : Int) ≤ 5 := by omega
        case' neg =>
          have l1 := hO.lenI (k := 5) (by omega)
          have m1 : 5 < (e : Int) := by omega
          by_cases ho5 : o ≤ 5
          case' pos =>
            have l2 := hO.lenS (k := o) (by omega)
            have m2 : (o : Int) ≤ 5 := by omega
          case' neg =>
            have l2 := hO.lenS (k := 5) (by omega)
            have m2 : 5 < (o : Int) := by omega
      all_goals
        have HPT := hid hPT
        have U0 := hid u0
        have U1 := hid u1
        have HBr := hid hBr
        clear hO hPT u1
        go_wp2_with fail
        refine l1.mono ?_; rintro e' wr ⟨rfl, rfl⟩
        go_wp2_with fail
        refine l2.mono ?_; rintro e' wr ⟨rfl, rfl⟩
        go_wp2_with fail
        refine l3.mono ?_; rintro e' wr ⟨rfl, rfl⟩
        go_wp2_with fail
        refine l4.mono ?_; rintro e' wr ⟨rfl, rfl⟩
        go_wp2_with fail
        clear l1 l2 l3 l4 u0 c0
        refine (tAllP _ _).mono ?_; rintro e' W7 ⟨rfl, hw7⟩
        have b7 : Below wr.heap.size wr W7 := by rw [hw7]; exact (Below.refl _ _).alloc (Nat.le_refl _) _
        have hBn : Vr W7 wr.heap.size 65 (.pointer (some ⟨u, 0, none⟩)) := by rw [hw7]; exact Vr.new wr _ _
        have hPT := HPT.out.below b7
        have v0 := U0.out.below b7 U0.out.lt
        have v1 := U1.out.below b7 U1.out.lt
        have hB7 := HBr.out.trans (b7.mono HBr.out.size)
        obtain ⟨Bn, hBne⟩ : ∃ Bn, wr.heap.size = Bn := ⟨_, rfl⟩
        rw [hBne] at hBn ⊢
        have hstops := tAllP_stops 8 (by decide) (fun _ => False) S Bn u K (fo z) W7 hPT hBn (fun _ _ e => e)
        have hW7l : w.heap.size + 2 ≤ W7.heap.size := Nat.le_trans hwl b7.size
        have V0' := hid v0
        have V1' := hid v1
        clear hw7 b7 hBne HPT U0 U1 HBr hPT v0 v1 hwl
        go_wp2_with fail
        refine wp_meet (fun D W => (w.heap.size ≤ D ∧ W.heap[D]? = some (.deferred (some []))) ∧ Vr W (w.heap.size + 1) 4 (.bool false) ∧ Below w.heap.size w W) ?_ ?_
        · refine (wpIn_wide (n := 9)).1 (range_boxed rfl (by decide) (gf := 48) (lb := #[.pointer (some ⟨Bn, 0, none⟩)]) rfl trivial (enters_of Try.func48 (by kernel_rfl) rfl) hstops Kc.trans (Kc.putObj _) (Below.refl _ _) (fun _ => rfl)
            (fun pre W => Vr W w.heap.size 22 (.slice p n cap) ∧ Vr W (w.heap.size + 1) 4 (.bool false) ∧ Below w.heap.size w W)
            (fun c pre W => False)
            (OwnFrom.and own_vr (OwnFrom.and own_vr (ownFrom_below (Nat.le_refl _) hB7.size)))
            (fun c => own_pure)
            ⟨V0'.out, V1'.out, hB7⟩
            (fun x b W => w.heap.size + 1 < b ∧ W.heap[b]? = some (.cells #[.int .i64 (fo z x.1).1, .int .i64 (fo z x.1).2] 67 (0, 0)))
            (fun x b => OwnFrom.and own_pure (own_of_kc fun _ _ _ h k => k.same _ _ h rfl (fun e => e))) ?_ ?_ ?_)
          · rintro l pre ⟨i, hi⟩ W K' ⟨v0, v1, hBW⟩ hK
            obtain ⟨q, hq⟩ : ∃ q, 2 * i + 1 = q := ⟨_, rfl⟩
            have e1 : (fo z i).1 = (q : Int) := by rw [← hq]; rfl
            have e2 : (fo z i).2 = z q := by rw [← hq]; rfl
            have HK := hid hK
            have HV0 := hid v0; have HV1 := hid v1; have HBW := hid hBW
            clear hK v0 v1 hBW hstops
            dsimp only
            rw [e1, e2]
            gi_wp2
            refine HK.out W.heap.size _ _ ((KeepsOthers.alloc _ _).from _) ((Kc.refl _ _).alloc _) ⟨HV0.out.alloc _, HV1.out.alloc _, HBW.out.trans ((Below.refl _ _).alloc HBW.out.size _)⟩ ⟨HV1.out.lt, by rw [e1, e2]; exact heap_alloc_new W _⟩ ?_
            generalize W.heap.size = bx
            clear HK HV0 HV1 HBW W
            rintro l' pre' W ⟨v0, v1, hBW⟩ ⟨hbx, hob⟩ hlen
            rw [e1, e2] at hob
            obtain ⟨ab, ao, rfl, _, hcs⟩ := (Arg.keep H.out hBW).at (i := q) (by omega)
            have c3 := hcs q (by omega)
            have c0 := v0.cell
            have d0 : W.cell? ⟨bx, 0, none⟩ = some (.int .i64 q) := by rw [cell_of_row W bx _ _ _ _ hob]; rfl
            have d1 : W.cell? ⟨bx, 1, none⟩ = some (.int .i64 (z q)) := by rw [cell_of_row W bx _ _ _ _ hob]; rfl
            have n1 : 2 * ((i : Int) + 1) - 1 = (q : Int) := by omega
            have n2 : (i : Int) < 50 := by omega
            have n3 : (q : Int) < (n : Int) := by omega
            have HV0 := hid v0; have HV1 := hid v1; have HBW := hid hBW
            clear v0 v1 hBW hcs hob e1 e2 hq
            gi_wp2_with fail
            refine round_quiet (F := Fence.wide) rfl (by kernel_rfl) (by kernel_rfl) (by kernel_rfl) ?_
            repeat (gi_big_quiet_step (fail))
            refine wpQuietIn_nil ?_
            intro _ hw'
            obtain ⟨nq, hw''⟩ := hw'
            subst hw''
            gi_wp2
            exact ⟨(ko_drewN _ _).from _, Kc.of_fr ((Fr.refl _ _).drewN _), HV0.out.fr (S := fun _ => False) ((Fr.refl _ _).drewN _) (fun e => e), HV1.out.fr (S := fun _ => False) ((Fr.refl _ _).drewN _) (fun e => e), HBW.out.trans (below_drewN _ _)⟩
          · rintro D ys W hD _ ⟨v0, v1, hBW⟩ hK
            exact ⟨.inl rfl, D, ⟨⟨Nat.le_trans hB7.size hD, hK⟩, v1, hBW⟩, rfl⟩
          · rintro D c pre W hD hsp hix hK
            exact hix.elim
        · rintro D W ⟨⟨hD0, hK⟩, v1, hBW⟩
          have hm : Marks W [D] := fun D' hD' => by rw [List.mem_singleton] at hD'; rw [hD']; exact hK
          have c1 := v1.cell
          have f1 := v1.thaw
          have HM := hid hm; have HV1 := hid v1; have HBW := hid hBW
          clear hstops hK hm v1 hBW
          go_wp2_with fail
          exact leaves_marks (rb := w.heap.size + 1) (t := 4) (fun W' hv => by simp [results, Try.results8, go_sem, hv.cell]) [D] _ (HM.out.others (KeepsOthers.setCell _ _ _)) (by simp) (fun D' hD' => by rw [List.mem_singleton] at hD'; rw [hD']; exact hD0) (HV1.out.set _) (HBW.out.setCell (p := ⟨w.heap.size + 1, 0, none⟩) (by show w.heap.size ≤ w.heap.size + 1; omega) _)
end Go.Proofs.Ytndoocnjdiillaa
