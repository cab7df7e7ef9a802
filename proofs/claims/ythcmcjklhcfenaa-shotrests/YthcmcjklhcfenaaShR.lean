/- Layer 12 (shot): the walk of ShotRests. -/
import Derived.Test.YthcmcjklhcfenaaShI
import Derived.Test.YthcmcjklhcfenaaShArg
namespace Go.Proofs.Ythcmcjklhcfenaa
open Go.RowKit
set_option linter.unusedVariables false
set_option linter.unusedSimpArgs false
attribute [local go_sem ↓] Go.wp_at_zero Go.wp_at_succ

set_option maxRecDepth 100000 in
set_option maxHeartbeats 8000000 in
theorem shotRests_walk (W D H : Int) (mp : Option Addr) (mn mc : Nat) (mf : Nat → Bool) (sp : Option Addr) (sn sc : Nat) (X Y Z : Nat → Int) (s : Sh) (w : World) (hW : I64 W) (hD : I64 D) (hH : I64 H) (hm : Arg w mp mn mc fun i => .bool (mf i)) (hv : ArgW w sp sn sc X Y Z) (hX : ∀ i, I64 (X i) ∧ I64 (Y i) ∧ I64 (Z i)) (hs : s.Wf) :
    Calls Try.prog 5 #[.agg #[.int .i64 W, .int .i64 D, .int .i64 H, .slice mp mn mc, .slice sp sn sc], .agg #[.int .i64 s.id, .int .i64 s.ow, .int .i64 s.kd, .int .i64 s.px, .int .i64 s.py, .int .i64 s.pz, .int .i64 s.vx, .int .i64 s.vy, .int .i64 s.vz, .int .i64 s.fu, .bool s.rs]] w fun e w' => e = .returned (.bool true) ∧ Below w.heap.size w w' := by
  obtain ⟨sr, hsr⟩ := boolOf ((mpOf W D H mn mf).RightP sn X Y Z)
  obtain ⟨sm, hsm⟩ : ∃ s, (decide (W ≤ 10) && decide (D ≤ 10) && decide (H ≤ 10) && sr) = s := ⟨_, rfl⟩
  have HSM := hid (fun V (hV : Below w.heap.size w V) => lawSmall12 W D H mp mn mc mf sp sn sc X Y Z hX sr hsr V (hm.keep hV) (hv.keep hV))
  rw [hsm] at HSM
  have HM := hid (fun V (hV : Below w.heap.size w V) => hm.keep hV)
  clear hsm hsr hW hD hH hX hv hm
  clear hs
  obtain ⟨m, hm64, hm⟩ := mask (m := 63) (x := s.fu) (k := 6) rfl (by omega)
  have hm6 : m ≤ 63 := by omega
  clear hm64
  have ew : IntKind.i64.wrap (2 + (m : Int)) = 2 + (m : Int) := wrapI (by omega) (by omega)
  obtain ⟨z, hz⟩ : ∃ z : Int, 2 + (m : Int) = z := ⟨_, rfl⟩
  rw [hz] at ew
  obtain ⟨p, hp⟩ : ∃ p : Sh, ({ ({ s with rs := true } : Sh) with fu := z } : Sh) = p := ⟨_, rfl⟩
  obtain ⟨j, hj⟩ : ∃ j : Nat, m + 1 = j := ⟨_, rfl⟩
  have hpf : p.fu = (j : Int) + 1 := by rw [← hp]; show z = _; omega
  have hpr : p.rs = true := by rw [← hp]
  obtain ⟨p1, hp1⟩ : ∃ q : Sh, ({ p with fu := 1 } : Sh) = q := ⟨_, rfl⟩
  obtain ⟨p0, hp0⟩ : ∃ q : Sh, ({ p with fu := 0 } : Sh) = q := ⟨_, rfl⟩
  have ew2 : IntKind.i64.wrap (p.fu - 1) = (j : Int) := by rw [hpf, wrapI (by omega) (by omega)]; omega
  have HQ := hid (show adv (mpOf W D H mn mf).sol (j : Int).toNat p = (p1, j, false) from by
    rw [Int.toNat_natCast, adv_rests hpr j (by omega), ← hp1]
    rw [show p.fu - (j : Int) = 1 by omega])
  have HS := hid (show sstep (mpOf W D H mn mf).sol p1 = (p0, true) from by
    have e : p1.fu = 1 := by rw [← hp1]
    unfold sstep
    rw [if_pos (by omega), e, ← hp0, ← hp1]
    rfl)
  obtain ⟨nb, hnb⟩ : ∃ b, nearB12 p = b := ⟨_, rfl⟩
  have HNR := hid (fun V => lawNear p V)
  rw [hnb] at HNR
  have HNB := hid hnb
  have HJ := hid (show j ≤ 64 by omega)
  replace hp := hid hp; replace hp1 := hid hp1; replace hp0 := hid hp0
  clear hj hm6 hpf hpr hnb
  have O : O5 ((w.alloc (.cells #[.int .i64 W, .int .i64 D, .int .i64 H, .slice mp mn mc, .slice sp sn sc] 25)).alloc (.cells #[.int .i64 s.id, .int .i64 s.ow, .int .i64 s.kd, .int .i64 s.px, .int .i64 s.py, .int .i64 s.pz, .int .i64 s.vx, .int .i64 s.vy, .int .i64 s.vz, .int .i64 s.fu, .bool s.rs] 33)) (w.heap.size) (.int .i64 W) (.int .i64 D) (.int .i64 H) (.slice mp mn mc) (.slice sp sn sc) := (O5.new _ _ _ _ _ _).alloc _
  have P : ShAt ((w.alloc (.cells #[.int .i64 W, .int .i64 D, .int .i64 H, .slice mp mn mc, .slice sp sn sc] 25)).alloc (.cells #[.int .i64 s.id, .int .i64 s.ow, .int .i64 s.kd, .int .i64 s.px, .int .i64 s.py, .int .i64 s.pz, .int .i64 s.vx, .int .i64 s.vy, .int .i64 s.vz, .int .i64 s.fu, .bool s.rs] 33)) (w.heap.size + 1) s := ShAt.new' _ _ (by simp)
  have HB : Below w.heap.size w ((w.alloc (.cells #[.int .i64 W, .int .i64 D, .int .i64 H, .slice mp mn mc, .slice sp sn sc] 25)).alloc (.cells #[.int .i64 s.id, .int .i64 s.ow, .int .i64 s.kd, .int .i64 s.px, .int .i64 s.py, .int .i64 s.pz, .int .i64 s.vx, .int .i64 s.vy, .int .i64 s.vz, .int .i64 s.fu, .bool s.rs] 33)) := ((Below.refl _ _).alloc (Nat.le_refl _) _).alloc (by simp) _
  go_enter Try.func5, Try.ntmps5
  go_upto_region 1 with fail
  obtain ⟨mb, hmb⟩ : ∃ b, w.heap.size = b := ⟨_, rfl⟩
  have hwm : w.heap.size ≤ mb := by omega
  rw [hmb] at O P
  try simp only [hmb]
  generalize ((w.alloc (.cells #[.int .i64 W, .int .i64 D, .int .i64 H, .slice mp mn mc, .slice sp sn sc] 25)).alloc (.cells #[.int .i64 s.id, .int .i64 s.ow, .int .i64 s.kd, .int .i64 s.px, .int .i64 s.py, .int .i64 s.pz, .int .i64 s.vx, .int .i64 s.vy, .int .i64 s.vz, .int .i64 s.fu, .bool s.rs] 33)) = V0 at *
  clear hmb
  go_wp2_with fail
  refine (lawShown12 _).mono ?_; rintro e V1 ⟨rfl, bq⟩
  replace O := O.keep bq; replace P := P.keep bq; replace HB := btrans HB bq
  clear bq
  obtain ⟨cP0, cP1, cP2, cP3, cP4, cP5, cP6, cP7, cP8, cP9, cP10⟩ := P.cells
  obtain ⟨tP0, tP1, tP2, tP3, tP4, tP5, tP6, tP7, tP8, tP9, tP10⟩ := P.thaw
  go_upto_region 3 with fail
  clear cP0 cP1 cP2 cP3 cP4 cP5 cP6 cP7 cP8 cP9 cP10 tP0 tP1 tP2 tP3 tP4 tP5 tP6 tP7 tP8 tP9 tP10
  replace O := O.fr (fr1 _ (mb + 1) 10 (.bool true)) (show ¬ (mb = mb + 1) by omega)
  replace P := P.s10 true
  replace HB := below_fr HB (fr1 _ (mb + 1) 10 (.bool true)) (Nat.le_refl _) (by intro k hk; replace hk : k = mb + 1 := hk; omega)
  generalize V1.setCell ⟨mb + 1, 10, none⟩ (.bool true) = V2 at *
  obtain ⟨cP0, cP1, cP2, cP3, cP4, cP5, cP6, cP7, cP8, cP9, cP10⟩ := P.cells
  dsimp only at cP0 cP1 cP2 cP3 cP4 cP5 cP6 cP7 cP8 cP9 cP10
  obtain ⟨tP0, tP1, tP2, tP3, tP4, tP5, tP6, tP7, tP8, tP9, tP10⟩ := P.thaw
  go_upto_region 4 with fail
  clear cP0 cP1 cP2 cP3 cP4 cP5 cP6 cP7 cP8 cP9 cP10 tP0 tP1 tP2 tP3 tP4 tP5 tP6 tP7 tP8 tP9 tP10
  replace O := O.fr (fr1 _ (mb + 1) 9 (.int .i64 z)) (show ¬ (mb = mb + 1) by omega)
  replace P := P.s9 z
  replace HB := below_fr HB (fr1 _ (mb + 1) 9 (.int .i64 z)) (Nat.le_refl _) (by intro k hk; replace hk : k = mb + 1 := hk; omega)
  generalize V2.setCell ⟨mb + 1, 9, none⟩ (.int .i64 z) = V3 at *
  rw [hp.out] at P
  clear hp hm ew hz
  obtain ⟨cO0, cO1, cO2, cO3, cO4⟩ := O.cells
  go_wp2_with fail
  refine (HSM.out _ HB).mono ?_; rintro e V4 ⟨rfl, bq⟩
  clear cO0 cO1 cO2 cO3 cO4
  replace O := O.keep bq; replace P := P.keep bq; replace HB := btrans HB bq
  clear bq
  clear HSM
  cases sm with
  | false =>
    go_wp2
    go_ret
    exact ⟨rfl, HB⟩
  | true =>
    go_wp2_with (refine wpList_ldS (by rfl) _ rfl _ _ rfl (by assumption) ?_)
    refine (HNR.out _).mono ?_; rintro e V5 ⟨rfl, bq⟩
    replace O := O.keep bq; replace P := P.keep bq; replace HB := btrans HB bq
    clear bq
    clear HNR
    cases nb with
    | false =>
      go_wp2
      go_ret
      exact ⟨rfl, HB⟩
    | true =>
      have hin := hid (nearB12_in HNB.out)
      clear HNB
      obtain ⟨cO0, cO1, cO2, cO3, cO4⟩ := O.cells
      have dP9 := P.cells.2.2.2.2.2.2.2.2.2.1
      go_wp2_with (refine wpList_ldS (by rfl) _ rfl _ _ rfl (by assumption) ?_)
      refine (shotAdvance W D H mp mn mc mf sp sn sc p (hin.out.mono (by omega) (by omega)) (j : Int) (by omega) (by have := HJ.out; omega) p1 j false HQ.out _ (HM.out _ HB)).mono ?_; rintro e V6 ⟨rfl, bq⟩
      clear cO0 cO1 cO2 cO3 cO4 dP9
      replace O := O.keep bq; replace P := P.keep bq; replace HB := btrans HB bq
      clear bq
      clear HQ
      go_upto_region 7 with fail
      have lP := P.lt
      replace O := O.alloc (.cells #[.int .i64 p1.id, .int .i64 p1.ow, .int .i64 p1.kd, .int .i64 p1.px, .int .i64 p1.py, .int .i64 p1.pz, .int .i64 p1.vx, .int .i64 p1.vy, .int .i64 p1.vz, .int .i64 p1.fu, .bool p1.rs] 33)
      replace P := P.alloc (.cells #[.int .i64 p1.id, .int .i64 p1.ow, .int .i64 p1.kd, .int .i64 p1.px, .int .i64 p1.py, .int .i64 p1.pz, .int .i64 p1.vx, .int .i64 p1.vy, .int .i64 p1.vz, .int .i64 p1.fu, .bool p1.rs] 33)
      replace HB := HB.alloc HB.size (.cells #[.int .i64 p1.id, .int .i64 p1.ow, .int .i64 p1.kd, .int .i64 p1.px, .int .i64 p1.py, .int .i64 p1.pz, .int .i64 p1.vx, .int .i64 p1.vy, .int .i64 p1.vz, .int .i64 p1.fu, .bool p1.rs] 33)
      have T := ShAt.new V6 p1
      obtain ⟨tb, htb⟩ : ∃ b, V6.heap.size = b := ⟨_, rfl⟩
      rw [htb] at T lP
      try simp only [htb]
      generalize V6.alloc (.cells #[.int .i64 p1.id, .int .i64 p1.ow, .int .i64 p1.kd, .int .i64 p1.px, .int .i64 p1.py, .int .i64 p1.pz, .int .i64 p1.vx, .int .i64 p1.vy, .int .i64 p1.vz, .int .i64 p1.fu, .bool p1.rs] 33) = V7 at *
      clear htb
      skip
      go_cut [9] from 38 to 38 (fun v wx => ∃ (b : Nat) (U : World), v = .pointer (some ⟨b, 0, none⟩) ∧ wx = U ∧ ShAt U b p ∧ Below V7.heap.size V7 U ∧ V7.heap.size ≤ b)
      case first =>
        have hz : ShAt (V7.alloc (.cells #[.int .i64 0, .int .i64 0, .int .i64 0, .int .i64 0, .int .i64 0, .int .i64 0, .int .i64 0, .int .i64 0, .int .i64 0, .int .i64 0, .bool false] 33)) V7.heap.size noSh := ShAt.new V7 noSh
        go_wp2_with (first | (refine wpList_ldS (by rfl) _ rfl _ _ rfl (by assumption) ?_) | (refine wpList_stS (by rfl) _ _ rfl _ _ (p) rfl rfl (by assumption) (fun V9 hN hF => ?_)))
        go_meet
        exact ⟨_, _, rfl, rfl, hN, below_fr ((Below.refl _ _).alloc (Nat.le_refl _) _) hF (Nat.le_refl _) (by intro k hk; replace hk : k = _ := hk; rw [hk]; exact Nat.le_refl _), Nat.le_refl _⟩
      case rest =>
      obtain ⟨wb, V8, rfl, eU, N, G, hwb⟩ := hcut
      replace eU := eU.symm
      subst eU
      have lO := O.lt
      have lP := P.lt
      have lT := T.lt
      replace O := O.keep G; replace P := P.keep G; replace T := T.keep G; replace HB := btrans HB G
      clear G
      obtain ⟨cN0, cN1, cN2, cN3, cN4, cN5, cN6, cN7, cN8, cN9, cN10⟩ := N.cells
      obtain ⟨tN0, tN1, tN2, tN3, tN4, tN5, tN6, tN7, tN8, tN9, tN10⟩ := N.thaw
      go_upto_region 9 with fail
      clear cN0 cN1 cN2 cN3 cN4 cN5 cN6 cN7 cN8 cN9 cN10 tN0 tN1 tN2 tN3 tN4 tN5 tN6 tN7 tN8 tN9 tN10
      replace O := O.fr (fr1 _ wb 9 (.int .i64 1)) (show ¬ (mb = wb) by omega)
      replace P := P.fr (fr1 _ wb 9 (.int .i64 1)) (show ¬ (mb + 1 = wb) by omega)
      replace T := T.fr (fr1 _ wb 9 (.int .i64 1)) (show ¬ (tb = wb) by omega)
      replace N := N.s9 1
      replace HB := below_fr HB (fr1 _ wb 9 (.int .i64 1)) (Nat.le_refl _) (by intro k hk; replace hk : k = wb := hk; omega)
      generalize V8.setCell ⟨wb, 9, none⟩ (.int .i64 1) = V9 at *
      rw [hp1.out] at N
      obtain ⟨cO0, cO1, cO2, cO3, cO4⟩ := O.cells
      have hin1 := hid (show p1.In 900000000 9000000 from by
        have h := hin.out.mono (K' := 900000000) (F' := 9000000) (by omega) (by omega)
        rw [← hp1.out]
        exact ⟨h.x0, h.x1, h.y0, h.y1, h.z0, h.z1, h.a0, h.a1, h.b0, h.b1, h.c0, h.c1, by dsimp only; omega, by dsimp only; omega⟩)
      go_wp2_with (refine wpList_ldS (by rfl) _ rfl _ _ rfl (by assumption) ?_)
      refine (shotStep W D H mp mn mc mf sp sn sc p1 hin1.out p0 true HS.out _ (HM.out _ HB)).mono ?_; rintro e V10 ⟨rfl, bq⟩
      clear cO0 cO1 cO2 cO3 cO4
      replace O := O.keep bq; replace P := P.keep bq; replace T := T.keep bq; replace N := N.keep bq; replace HB := btrans HB bq
      clear bq
      clear HS hin hin1
      go_upto_region 10 with fail
      have lN := N.lt
      replace O := O.alloc (.cells #[.int .i64 p0.id, .int .i64 p0.ow, .int .i64 p0.kd, .int .i64 p0.px, .int .i64 p0.py, .int .i64 p0.pz, .int .i64 p0.vx, .int .i64 p0.vy, .int .i64 p0.vz, .int .i64 p0.fu, .bool p0.rs] 33)
      replace P := P.alloc (.cells #[.int .i64 p0.id, .int .i64 p0.ow, .int .i64 p0.kd, .int .i64 p0.px, .int .i64 p0.py, .int .i64 p0.pz, .int .i64 p0.vx, .int .i64 p0.vy, .int .i64 p0.vz, .int .i64 p0.fu, .bool p0.rs] 33)
      replace T := T.alloc (.cells #[.int .i64 p0.id, .int .i64 p0.ow, .int .i64 p0.kd, .int .i64 p0.px, .int .i64 p0.py, .int .i64 p0.pz, .int .i64 p0.vx, .int .i64 p0.vy, .int .i64 p0.vz, .int .i64 p0.fu, .bool p0.rs] 33)
      replace N := N.alloc (.cells #[.int .i64 p0.id, .int .i64 p0.ow, .int .i64 p0.kd, .int .i64 p0.px, .int .i64 p0.py, .int .i64 p0.pz, .int .i64 p0.vx, .int .i64 p0.vy, .int .i64 p0.vz, .int .i64 p0.fu, .bool p0.rs] 33)
      replace HB := HB.alloc HB.size (.cells #[.int .i64 p0.id, .int .i64 p0.ow, .int .i64 p0.kd, .int .i64 p0.px, .int .i64 p0.py, .int .i64 p0.pz, .int .i64 p0.vx, .int .i64 p0.vy, .int .i64 p0.vz, .int .i64 p0.fu, .bool p0.rs] 33)
      have U := ShAt.new V10 p0
      obtain ⟨ub, hub⟩ : ∃ b, V10.heap.size = b := ⟨_, rfl⟩
      rw [hub] at U lN
      try simp only [hub]
      generalize V10.alloc (.cells #[.int .i64 p0.id, .int .i64 p0.ow, .int .i64 p0.kd, .int .i64 p0.px, .int .i64 p0.py, .int .i64 p0.pz, .int .i64 p0.vx, .int .i64 p0.vy, .int .i64 p0.vz, .int .i64 p0.fu, .bool p0.rs] 33) = V11 at *
      clear hub
      obtain ⟨cN0, cN1, cN2, cN3, cN4, cN5, cN6, cN7, cN8, cN9, cN10⟩ := N.cells
      obtain ⟨tN0, tN1, tN2, tN3, tN4, tN5, tN6, tN7, tN8, tN9, tN10⟩ := N.thaw
      go_upto_region 11 with fail
      clear cN0 cN1 cN2 cN3 cN4 cN5 cN6 cN7 cN8 cN9 cN10 tN0 tN1 tN2 tN3 tN4 tN5 tN6 tN7 tN8 tN9 tN10
      replace O := O.fr (fr1 _ wb 9 (.int .i64 1)) (show ¬ (mb = wb) by omega)
      replace P := P.fr (fr1 _ wb 9 (.int .i64 1)) (show ¬ (mb + 1 = wb) by omega)
      replace T := T.fr (fr1 _ wb 9 (.int .i64 1)) (show ¬ (tb = wb) by omega)
      replace N := N.s9 1
      replace U := U.fr (fr1 _ wb 9 (.int .i64 1)) (show ¬ (ub = wb) by omega)
      replace HB := below_fr HB (fr1 _ wb 9 (.int .i64 1)) (Nat.le_refl _) (by intro k hk; replace hk : k = wb := hk; omega)
      generalize V11.setCell ⟨wb, 9, none⟩ (.int .i64 1) = V12 at *
      replace N : ShAt V12 wb p1 := by have h := N; rw [← hp1.out] at h; rw [← hp1.out]; exact h
      have dP9 := P.cells.2.2.2.2.2.2.2.2.2.1
      go_upto_region 13 with (first | (refine wpList_ldS (by rfl) _ rfl _ _ rfl (by assumption) ?_) | (refine wpList_neS (by rfl) _ _ _ rfl (p1) rfl rfl ?_))
      clear dP9
      obtain ⟨cN0, cN1, cN2, cN3, cN4, cN5, cN6, cN7, cN8, cN9, cN10⟩ := N.cells
      obtain ⟨tN0, tN1, tN2, tN3, tN4, tN5, tN6, tN7, tN8, tN9, tN10⟩ := N.thaw
      go_upto_region 14 with fail
      clear cN0 cN1 cN2 cN3 cN4 cN5 cN6 cN7 cN8 cN9 cN10 tN0 tN1 tN2 tN3 tN4 tN5 tN6 tN7 tN8 tN9 tN10
      replace O := O.fr (fr1 _ wb 9 (.int .i64 0)) (show ¬ (mb = wb) by omega)
      replace P := P.fr (fr1 _ wb 9 (.int .i64 0)) (show ¬ (mb + 1 = wb) by omega)
      replace T := T.fr (fr1 _ wb 9 (.int .i64 0)) (show ¬ (tb = wb) by omega)
      replace N := N.s9 0
      replace U := U.fr (fr1 _ wb 9 (.int .i64 0)) (show ¬ (ub = wb) by omega)
      replace HB := below_fr HB (fr1 _ wb 9 (.int .i64 0)) (Nat.le_refl _) (by intro k hk; replace hk : k = wb := hk; omega)
      generalize V12.setCell ⟨wb, 9, none⟩ (.int .i64 0) = V13 at *
      replace N : ShAt V13 wb p0 := by have h := N; rw [← hp1.out] at h; rw [← hp0.out]; exact h
      go_wp2_with (first | (refine wpList_ldS (by rfl) _ rfl _ _ rfl (by assumption) ?_) | (refine wpList_eqS (by rfl) _ _ _ rfl (p0) rfl rfl ?_))
      go_ret
      exact ⟨rfl, HB⟩
end Go.Proofs.Ythcmcjklhcfenaa
