/- Layer 7 (mail): the walk of the law MailAgain. -/
import Derived.Test.YtllojhhplfdgkaaMlH
namespace Go.Proofs.Ytllojhhplfdgkaa
open Go.Conc Go.RowKit Go.Shelf
set_option linter.unusedVariables false
set_option linter.unusedSimpArgs false
attribute [local go_sem ↓] Go.wp_at_zero Go.wp_at_succ

theorem min_is {n k N : Nat} (h : min n k = N) (ts : Array TypeId) (t : TypeId) (W : World) : (Builtin.min_ ts t #[.int .i64 (n : Int), .int .i64 (k : Int)]).run Try.prog W = .ok (.int .i64 (N : Int)) W := by
  rw [run_min_int2]; split <;> (congr 2; omega)
set_option maxRecDepth 100000 in
set_option maxHeartbeats 4000000 in
theorem mailAgain_walk (m : Int) (p : Option Addr) (n cap : Nat) (s : Nat → ByteArray) (w : World) (hm : (Lit.int .i64 m).wf = true) (h : Arg w p n cap fun i => .string (s i)) :
    Calls Try.prog 6 #[.int .i64 m, .slice p n cap] w fun e w' => e = .returned (.bool true) ∧ Below w.heap.size w w' := by
  have hle := h.le; have hmost := h.most
  unfold maxLen at hmost
  obtain ⟨N, hN⟩ : ∃ N, min n 100 = N := ⟨_, rfl⟩
  have hmin : ∀ ts t W, (Builtin.min_ ts t #[.int .i64 (n : Int), .int .i64 100]).run Try.prog W = .ok (.int .i64 (N : Int)) W := min_is hN
  have hA : Arg w p N cap fun i => .string (s i) := ⟨by omega, h.most, by
    rcases h.cells with h0 | ⟨b, o, hp, hb, hc⟩
    · exact .inl (by omega)
    · exact .inr ⟨b, o, hp, hb, fun i hi => hc i (by omega)⟩⟩
  have HA := hid hA
  obtain ⟨R, hR⟩ : ∃ R, room m = R := ⟨_, rfl⟩
  have hR1 := room_pos m
  rw [hR] at hR1
  have hNc : (N : Int) ≤ (cap : Int) := by omega
  have hsh := shown7 w
  clear h hA hm
  go_enter Try.func6, Try.ntmps6
  go_wp2_with fail
  refine hsh.mono ?_; rintro e w1 ⟨rfl, b1⟩
  have hn := newKB m w w1 _ rfl b1
  rw [hR] at hn
  clear hsh b1
  go_wp2_with fail
  refine hn.mono ?_; rintro e w2 ⟨b, c, rfl, hK⟩
  have HK := hid hK
  clear hn hK
  go_wp2_with fail
  go_loopw [7] (fun i wr => ∃ (k : Nat), i = .int .i64 (k : Int) ∧ k ≤ N ∧ KB w.heap.size (fun _ => False) w wr b c R (kept s R k) (0 + (k - R))) (fun i _ => N - (intOf i).toNat)
  case atStart => exact ⟨0, rfl, Nat.zero_le _, by rw [kept_zero, Nat.zero_sub]; exact HK.out⟩
  case round =>
    obtain ⟨k, rfl, hk, hK⟩ := hrel
    clear HK
    by_cases hlt : k < N
    · obtain ⟨b1, o1, rfl, hbl1, hc1⟩ := (HA.out.keep hK.below).at hlt
      have c1 := hc1 k hlt
      have hp := hK.put (Nat.le_refl _) (by omega)
      have i1 : (k : Int) < (N : Int) := by omega
      clear hc1 hK
      go_wp2_with fail
      refine hp.mono ?_; rintro e w3 ⟨rfl, hK, _⟩
      have HK := hid hK
      clear hp hK
      go_wp2_with fail
      go_roundw
      case rel => exact ⟨k + 1, by go_num, by omega, HK.out⟩
      case measure => simp [intOf]; omega
    · obtain rfl : k = N := by omega
      obtain ⟨M, hM⟩ : ∃ M, min k R = M := ⟨_, rfl⟩
      obtain ⟨L, hL⟩ : ∃ L, k - R = L := ⟨_, rfl⟩
      rw [hL] at hK
      have hd := hK.drain (Nat.le_refl _) hR1.2
      clear hK
      go_wp2_with fail
      refine hd.mono ?_; rintro e w3 ⟨v1, rfl, hv1, hK, _⟩
      obtain ⟨p1, q1, hv, _, hq1⟩ := hv1.form
      rw [List.length_map, kept_length, hM] at hv
      subst hv
      obtain ⟨X, hX⟩ : ∃ X : Nat → Prop, (fun k => False ∨ (Value.slice p1 M q1).ownBlock = some k) = X := ⟨_, rfl⟩
      rw [hX] at hK
      have hX1 : ∀ k, (Value.slice p1 M q1).ownBlock = some k → X k := fun k e => by rw [← hX]; exact .inr e
      have hl := hK.lost
      have HK := hid hK; have HV1 := hid hv1; have HX1 := hid hX1
      clear hd hK hv1 hX hX1
      go_wp2_with fail
      refine hl.mono ?_; rintro e w4 ⟨rfl, hw⟩
      rw [hw]
      clear hw w4 hl
      go_wp2_with fail
      go_loopw [10] (fun i wr => ∃ (j : Nat), i = .int .i64 (j : Int) ∧ j ≤ k ∧ KB w.heap.size X w wr b c R (kept s R j) (L + (j - R)) ∧ Keep X w3 wr) (fun i _ => k - (intOf i).toNat)
      case atStart => exact ⟨0, rfl, Nat.zero_le _, by rw [kept_zero, Nat.zero_sub, Nat.add_zero]; have := HK.out; rwa [Nat.zero_add] at this, Keep.refl _ _⟩
      case round =>
        obtain ⟨j, rfl, hj, hK, hkp⟩ := hrel
        clear HK
        by_cases hlt : j < k
        · obtain ⟨b1, o1, rfl, hbl1, hc1⟩ := (HA.out.keep hK.below).at hlt
          have c1 := hc1 j hlt
          have hp := hK.put (Nat.le_refl _) (by omega)
          have i1 : (j : Int) < (k : Int) := by omega
          have HKP := hid hkp
          clear hc1 hK hkp
          go_wp2_with fail
          refine hp.mono ?_; rintro e w4 ⟨rfl, hK, hkp2⟩
          have HK := hid hK
          have HKP2 := hid (HKP.out.trans hkp2)
          clear hp hK hkp2
          go_wp2_with fail
          go_roundw
          case rel => exact ⟨j + 1, by go_num, by omega, HK.out, HKP2.out⟩
          case measure => simp [intOf]; omega
        · obtain rfl : j = k := by omega
          rw [hL] at hK
          have hv2 := HV1.out.keepX HX1.out hkp
          have hd := hK.drain (Nat.le_refl _) hR1.2
          clear hK HV1 hkp
          go_wp2_with fail
          refine hd.mono ?_; rintro e w5 ⟨v2, rfl, hw2, hK, hkp⟩
          have hv3 := hv2.keepX HX1.out hkp
          obtain ⟨p2, q2, hv, _, hq2⟩ := hw2.form
          rw [List.length_map, kept_length, hM] at hv
          subst hv
          have hl := hK.lost
          have hn := hK.len
          rw [show ((L + L : Nat) : Int) = 2 * (L : Int) by omega] at hl
          have f0 : ((kept s R j).map vS).length = M := by rw [List.length_map, kept_length, hM]
          have f1 : ∀ i, i < M → ((kept s R j).map vS)[i]? = some (.string (s i)) := fun i hi => by
            rw [List.getElem?_map, kept_get (by omega)]; rfl
          have ha1 := hv3.argN f0 f1
          have ha2 := hw2.argN f0 f1
          have ha3 := HA.out.keep hK.below
          have HA1 := hid ha1; have HA2 := hid ha2; have HA3 := hid ha3; have HB := hid hK.below
          have i5 : (M : Int) + (L : Int) = (j : Int) := by omega
          have i6 : M ≤ j := by omega
          clear hd hv2 hw2 hK hkp hv3 f0 f1 ha1 ha2 ha3 HA HX1
          go_wp2_with fail
          refine hl.mono ?_; rintro e w6 ⟨rfl, hw⟩
          rw [hw]
          clear hw w6 hl
          go_wp2_with fail
          refine hn.mono ?_; rintro e w6 ⟨rfl, hw⟩
          rw [hw]
          clear hw w6 hn
          go_wp2_with fail
          go_loopw [12] (fun i wr => ∃ (u : Nat), i = .int .i64 (u : Int) ∧ u ≤ M ∧ Below w5.heap.size w5 wr) (fun i _ => M - (intOf i).toNat)
          case atStart => exact ⟨0, rfl, Nat.zero_le _, Below.refl _ _⟩
          case round =>
            obtain ⟨u, rfl, hu, hb⟩ := hrel
            by_cases hlt : u < M
            · obtain ⟨g1, o1, rfl, hg1, hc1⟩ := (HA1.out.keep hb).at hlt
              obtain ⟨g2, o2, rfl, hg2, hc2⟩ := (HA2.out.keep hb).at hlt
              obtain ⟨g3, o3, rfl, hg3, hc3⟩ := (HA3.out.keep hb).at (i := u) (by omega)
              have c1 := hc1 u hlt
              have c2 := hc2 u hlt
              have c3 := hc3 u (by omega)
              have HBB := hid hb
              have j1 : (u : Int) < (M : Int) := by omega
              have j2 : (u : Int) < (j : Int) := by omega
              clear hc1 hc2 hc3 hb
              go_wp2_with fail
              go_region
              go_wp2_with fail
              go_roundw
              case rel => exact ⟨u + 1, by go_num, by omega, HBB.out.trans (below_drewN _ _)⟩
              case measure => simp [intOf]; omega
            · obtain rfl : u = M := by omega
              have HBB := hid (HB.out.trans (hb.mono HB.out.size))
              clear hb
              go_wp2_with fail
              go_ret
              exact ⟨rfl, HBB.out⟩
end Go.Proofs.Ytllojhhplfdgkaa
