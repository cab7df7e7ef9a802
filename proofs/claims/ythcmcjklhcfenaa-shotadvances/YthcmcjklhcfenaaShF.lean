/- Layer 12 (shot): the contract of New. -/
import Derived.Test.YthcmcjklhcfenaaShE
import Derived.Deep.RegionWith
namespace Go.Proofs.Ythcmcjklhcfenaa
open Go.RowKit
set_option linter.unusedVariables false
set_option linter.unusedSimpArgs false
attribute [local go_sem ↓] Go.wp_at_zero Go.wp_at_succ

/-- What New makes: the shot, and the errno. -/
def newS (id ow kd x y z a b c : Int) : Sh × Int :=
  if a = 0 ∧ b = 0 ∧ c = 0 then (noSh, 1)
  else if fclamp a 65536 = a ∧ fclamp b 65536 = b ∧ fclamp c 65536 = c then
    if kd = 0 then (⟨id, ow, kd, x, y, z, mkv a 26214 (flong a b c), mkv b 26214 (flong a b c), mkv c 26214 (flong a b c), 200, false⟩, 0)
    else if kd = 1 then (⟨id, ow, kd, x, y, z, mkv a 16384 (flong a b c), mkv b 16384 (flong a b c), mkv c 16384 (flong a b c), 60, false⟩, 0)
    else (noSh, 1)
  else (noSh, 1)
theorem fclamp_one (n : Int) : fclamp n 65536 = n ↔ -65536 ≤ n ∧ n ≤ 65536 := by
  unfold fclamp; split <;> (try split) <;> omega
set_option maxRecDepth 100000 in
set_option maxHeartbeats 8000000 in
theorem shotNew (i o k x y z a b c : Int) (ia : I64 a) (ib : I64 b) (ic : I64 c) (q : Sh) (n : Int) (hq : newS i o k x y z a b c = (q, n)) (w : World) :
    Calls Try.prog 12 #[.int .i64 i, .int .i64 o, .int .i64 k, .agg #[.int .i64 x, .int .i64 y, .int .i64 z], .agg #[.int .i64 a, .int .i64 b, .int .i64 c]] w fun e w' => e = .returned (.tuple #[.agg #[.int .i64 q.id, .int .i64 q.ow, .int .i64 q.kd, .int .i64 q.px, .int .i64 q.py, .int .i64 q.pz, .int .i64 q.vx, .int .i64 q.vy, .int .i64 q.vz, .int .i64 q.fu, .bool q.rs], .int .i64 n]) ∧ Below w.heap.size w w' := by
  have HC := hid (fun V => fixVecClampP a b c 65536 ia ib ic (i64_in (by omega) (by omega)) (by omega) V)
  have E1 := eqV a b c 0 0 0
  have E2 := eqV a b c (fclamp a 65536) (fclamp b 65536) (fclamp c 65536)
  unfold newS at hq
  obtain ⟨d1, h1⟩ : ∃ d, (a == 0 && b == 0 && c == 0) = d := ⟨_, rfl⟩
  obtain ⟨d2, h2⟩ : ∃ d, (a == fclamp a 65536 && b == fclamp b 65536 && c == fclamp c 65536) = d := ⟨_, rfl⟩
  rw [h1] at E1; rw [h2] at E2
  obtain ⟨bad, hbad⟩ : ∃ d, (d1 || !d2) = d := ⟨_, rfl⟩
  have HQ : Hid ((bad = true ∧ q = noSh ∧ n = 1) ∨ (bad = false ∧ (¬ (a = 0 ∧ b = 0 ∧ c = 0)) ∧ (-65536 ≤ a ∧ a ≤ 65536) ∧ (-65536 ≤ b ∧ b ≤ 65536) ∧ (-65536 ≤ c ∧ c ≤ 65536) ∧
      ((k = 0 ∧ q = ⟨i, o, k, x, y, z, mkv a 26214 (flong a b c), mkv b 26214 (flong a b c), mkv c 26214 (flong a b c), 200, false⟩ ∧ n = 0) ∨ (¬ k = 0 ∧ k = 1 ∧ q = ⟨i, o, k, x, y, z, mkv a 16384 (flong a b c), mkv b 16384 (flong a b c), mkv c 16384 (flong a b c), 60, false⟩ ∧ n = 0) ∨ (¬ k = 0 ∧ ¬ k = 1 ∧ q = noSh ∧ n = 1)))) := by
    refine hid ?_
    by_cases c1 : a = 0 ∧ b = 0 ∧ c = 0
    · rw [if_pos c1] at hq
      obtain ⟨rfl, rfl⟩ := Prod.mk.inj hq
      refine .inl ⟨?_, rfl, rfl⟩
      rw [← hbad, ← h1]; simp [c1]
    · rw [if_neg c1] at hq
      have e1 : d1 = false := by
        rw [← h1, Bool.eq_false_iff]; intro h
        simp only [Bool.and_eq_true, beq_iff_eq] at h
        exact c1 ⟨h.1.1, h.1.2, h.2⟩
      subst e1
      by_cases c2 : fclamp a 65536 = a ∧ fclamp b 65536 = b ∧ fclamp c 65536 = c
      · rw [if_pos c2] at hq
        have e2 : d2 = true := by rw [← h2, c2.1, c2.2.1, c2.2.2]; simp
        subst e2
        refine .inr ⟨by rw [← hbad]; rfl, c1, (fclamp_one a).1 c2.1, (fclamp_one b).1 c2.2.1, (fclamp_one c).1 c2.2.2, ?_⟩
        by_cases k0 : k = 0
        · rw [if_pos k0] at hq; obtain ⟨rfl, rfl⟩ := Prod.mk.inj hq; exact .inl ⟨k0, rfl, rfl⟩
        · rw [if_neg k0] at hq
          by_cases k1 : k = 1
          · rw [if_pos k1] at hq; obtain ⟨rfl, rfl⟩ := Prod.mk.inj hq; exact .inr (.inl ⟨k0, k1, rfl, rfl⟩)
          · rw [if_neg k1] at hq; obtain ⟨rfl, rfl⟩ := Prod.mk.inj hq; exact .inr (.inr ⟨k0, k1, rfl, rfl⟩)
      · rw [if_neg c2] at hq
        have e2 : d2 = false := by
          rw [← h2, Bool.eq_false_iff]; intro h
          simp only [Bool.and_eq_true, beq_iff_eq] at h
          exact c2 ⟨h.1.1.symm, h.1.2.symm, h.2.symm⟩
        subst e2
        obtain ⟨rfl, rfl⟩ := Prod.mk.inj hq
        exact .inl ⟨by rw [← hbad]; rfl, rfl, rfl⟩
  have HBD := hid hbad
  clear hq h1 h2 ia ib ic hbad
  have P : O3 (((w.alloc (.cells #[.int .i64 x, .int .i64 y, .int .i64 z] 27)).alloc (.cells #[.int .i64 a, .int .i64 b, .int .i64 c] 27)).alloc (.cells #[.int .i64 0, .int .i64 0, .int .i64 0, .int .i64 0, .int .i64 0, .int .i64 0, .int .i64 0, .int .i64 0, .int .i64 0, .int .i64 0, .bool false] 33)) (w.heap.size) 27 (.int .i64 x) (.int .i64 y) (.int .i64 z) := ((O3.new' _ _ _ _ _ (by simp)).alloc _).alloc _
  have G : O3 (((w.alloc (.cells #[.int .i64 x, .int .i64 y, .int .i64 z] 27)).alloc (.cells #[.int .i64 a, .int .i64 b, .int .i64 c] 27)).alloc (.cells #[.int .i64 0, .int .i64 0, .int .i64 0, .int .i64 0, .int .i64 0, .int .i64 0, .int .i64 0, .int .i64 0, .int .i64 0, .int .i64 0, .bool false] 33)) (w.heap.size + 1) 27 (.int .i64 a) (.int .i64 b) (.int .i64 c) := (O3.new' _ _ _ _ _ (by simp)).alloc _
  have Z : ShAt (((w.alloc (.cells #[.int .i64 x, .int .i64 y, .int .i64 z] 27)).alloc (.cells #[.int .i64 a, .int .i64 b, .int .i64 c] 27)).alloc (.cells #[.int .i64 0, .int .i64 0, .int .i64 0, .int .i64 0, .int .i64 0, .int .i64 0, .int .i64 0, .int .i64 0, .int .i64 0, .int .i64 0, .bool false] 33)) (w.heap.size + 1 + 1) noSh := ShAt.new' _ noSh (by simp)
  have HB : Below w.heap.size w (((w.alloc (.cells #[.int .i64 x, .int .i64 y, .int .i64 z] 27)).alloc (.cells #[.int .i64 a, .int .i64 b, .int .i64 c] 27)).alloc (.cells #[.int .i64 0, .int .i64 0, .int .i64 0, .int .i64 0, .int .i64 0, .int .i64 0, .int .i64 0, .int .i64 0, .int .i64 0, .int .i64 0, .bool false] 33)) := (((Below.refl _ _).alloc (Nat.le_refl _) _).alloc (by simp) _).alloc (by simp; omega) _
  go_enter Try.func12, Try.ntmps12
  go_upto_region 1 with fail
  obtain ⟨mb, hmb⟩ : ∃ b, w.heap.size = b := ⟨_, rfl⟩
  have hwm : w.heap.size ≤ mb := by omega
  rw [hmb] at P G Z
  try simp only [hmb]
  generalize (((w.alloc (.cells #[.int .i64 x, .int .i64 y, .int .i64 z] 27)).alloc (.cells #[.int .i64 a, .int .i64 b, .int .i64 c] 27)).alloc (.cells #[.int .i64 0, .int .i64 0, .int .i64 0, .int .i64 0, .int .i64 0, .int .i64 0, .int .i64 0, .int .i64 0, .int .i64 0, .int .i64 0, .bool false] 33)) = V0 at *
  clear hmb
  have hST : O3 V0 mb 27 (.int .i64 x) (.int .i64 y) (.int .i64 z) ∧ O3 V0 (mb + 1) 27 (.int .i64 a) (.int .i64 b) (.int .i64 c) ∧ ShAt V0 (mb + 1 + 1) noSh ∧ Below w.heap.size w V0 := ⟨P, G, Z, HB⟩
  clear P Z HB
  go_cut [21] from 13 to 20 (fun v wx => ∃ V, v = .bool bad ∧ wx = V ∧ O3 V mb 27 (.int .i64 x) (.int .i64 y) (.int .i64 z) ∧ O3 V (mb + 1) 27 (.int .i64 a) (.int .i64 b) (.int .i64 c) ∧ ShAt V (mb + 1 + 1) noSh ∧ Below w.heap.size w V)
  case first =>
    clear HQ
    obtain ⟨g0, g1, g2⟩ := G.cells
    clear G
    cases d1 with
    | true =>
      have er : bad = true := by rw [← HBD.out]; rfl
      subst er
      clear HBD HC E2
      go_region
      go_wp2
      go_meet
      obtain ⟨P, G, Z, HB⟩ := hST
      exact ⟨_, rfl, rfl, P.keep (Below.refl _ _).drew, G.keep (Below.refl _ _).drew, Z.keep (Below.refl _ _).drew, btrans HB (Below.refl _ _).drew⟩
    | false =>
      have er : (!d2) = bad := by rw [← HBD.out]; rfl
      clear HBD
      obtain ⟨A, eA⟩ : ∃ n, fclamp a 65536 = n := ⟨_, rfl⟩
      obtain ⟨B, eB⟩ : ∃ n, fclamp b 65536 = n := ⟨_, rfl⟩
      obtain ⟨C, eC⟩ : ∃ n, fclamp c 65536 = n := ⟨_, rfl⟩
      rw [eA, eB, eC] at E2
      rw [eA, eB, eC] at HC
      clear eA eB eC
      cases d2 with
      | true =>
        have er2 : bad = false := er.symm
        subst er2
        clear er
        go_region_with ((go_at_call 21; refine (HC.out _).mono ?_; rintro e VC ⟨rfl, bq⟩; have hST := (show _ from ⟨hST.1.keep (bdrew bq), hST.2.1.keep (bdrew bq), hST.2.2.1.keep (bdrew bq), btrans hST.2.2.2 (bdrew bq)⟩ : O3 VC mb 27 (.int .i64 x) (.int .i64 y) (.int .i64 z) ∧ O3 VC (mb + 1) 27 (.int .i64 a) (.int .i64 b) (.int .i64 c) ∧ ShAt VC (mb + 1 + 1) noSh ∧ Below w.heap.size w VC); obtain ⟨g0, g1, g2⟩ := hST.2.1.cells))
        all_goals (go_wp2; go_meet; exact ⟨_, rfl, rfl, hST⟩)
      | false =>
        have er2 : bad = true := er.symm
        subst er2
        clear er
        go_region_with ((go_at_call 21; refine (HC.out _).mono ?_; rintro e VC ⟨rfl, bq⟩; have hST := (show _ from ⟨hST.1.keep (bdrew bq), hST.2.1.keep (bdrew bq), hST.2.2.1.keep (bdrew bq), btrans hST.2.2.2 (bdrew bq)⟩ : O3 VC mb 27 (.int .i64 x) (.int .i64 y) (.int .i64 z) ∧ O3 VC (mb + 1) 27 (.int .i64 a) (.int .i64 b) (.int .i64 c) ∧ ShAt VC (mb + 1 + 1) noSh ∧ Below w.heap.size w VC); obtain ⟨g0, g1, g2⟩ := hST.2.1.cells))
        all_goals (go_wp2; go_meet; exact ⟨_, rfl, rfl, hST⟩)
  case rest =>
    clear hST G E1 E2 HC HBD
    obtain ⟨V1, rfl, eV, P, G, Z, HB⟩ := hcut
    replace eV := eV.symm
    subst eV
    rcases HQ.out with ⟨rfl, rfl, rfl⟩ | ⟨rfl, c1, na, nb, nc, hk⟩
    · skip
      go_wp2_with (first | (refine wpList_ldS (by rfl) _ rfl _ _ rfl (by assumption) ?_) | (refine wpList_stS (by rfl) _ _ rfl _ _ (noSh) rfl rfl (by assumption) (fun V9 hN hF => ?_)))
      replace P := P.fr hF (show ¬ (mb = mb + 1 + 1) by omega)
      replace G := G.fr hF (show ¬ (mb + 1 = mb + 1 + 1) by omega)
      replace Z := hN
      replace HB := below_fr HB hF (Nat.le_refl _) (by intro k hk; replace hk : k = mb + 1 + 1 := hk; omega)
      clear hN hF
      obtain ⟨cZ0, cZ1, cZ2, cZ3, cZ4, cZ5, cZ6, cZ7, cZ8, cZ9, cZ10⟩ := Z.cells
      refine bodyPost_ret (v := .tuple #[.agg #[.int .i64 noSh.id, .int .i64 noSh.ow, .int .i64 noSh.kd, .int .i64 noSh.px, .int .i64 noSh.py, .int .i64 noSh.pz, .int .i64 noSh.vx, .int .i64 noSh.vy, .int .i64 noSh.vz, .int .i64 noSh.fu, .bool noSh.rs], .int .i64 1]) ?_ rfl ⟨rfl, HB⟩
      simp [results, Try.results12, go_sem, cZ0, cZ1, cZ2, cZ3, cZ4, cZ5, cZ6, cZ7, cZ8, cZ9, cZ10]
    · have HAL := hid (fun s (hs : s = 26214 ∨ s = 16384) V => shotAlong a b c s (flong a b c) na nb nc c1 hs rfl V)
      obtain ⟨l, el⟩ : ∃ l, flong a b c = l := ⟨_, rfl⟩
      rw [el] at HAL hk
      replace hk := hid hk
      clear HQ el c1 na nb nc
      try clear hs
      obtain ⟨cP0, cP1, cP2⟩ := P.cells
      go_upto_region 4 with fail
      clear cP0 cP1 cP2
      have lZ := Z.lt
      replace P := P.alloc (.cells #[.int .i64 i, .int .i64 o, .int .i64 k, .int .i64 x, .int .i64 y, .int .i64 z, .int .i64 0, .int .i64 0, .int .i64 0, .int .i64 0, .bool false] 33)
      replace G := G.alloc (.cells #[.int .i64 i, .int .i64 o, .int .i64 k, .int .i64 x, .int .i64 y, .int .i64 z, .int .i64 0, .int .i64 0, .int .i64 0, .int .i64 0, .bool false] 33)
      replace Z := Z.alloc (.cells #[.int .i64 i, .int .i64 o, .int .i64 k, .int .i64 x, .int .i64 y, .int .i64 z, .int .i64 0, .int .i64 0, .int .i64 0, .int .i64 0, .bool false] 33)
      replace HB := HB.alloc HB.size (.cells #[.int .i64 i, .int .i64 o, .int .i64 k, .int .i64 x, .int .i64 y, .int .i64 z, .int .i64 0, .int .i64 0, .int .i64 0, .int .i64 0, .bool false] 33)
      have N := ShAt.new V1 (⟨i, o, k, x, y, z, 0, 0, 0, 0, false⟩ : Sh)
      obtain ⟨kb, hkb⟩ : ∃ b, V1.heap.size = b := ⟨_, rfl⟩
      rw [hkb] at N lZ
      try simp only [hkb]
      generalize V1.alloc (.cells #[.int .i64 i, .int .i64 o, .int .i64 k, .int .i64 x, .int .i64 y, .int .i64 z, .int .i64 0, .int .i64 0, .int .i64 0, .int .i64 0, .bool false] 33) = V2 at *
      clear hkb
      rcases hk.out with ⟨k0, eq, en⟩ | ⟨k0, k1, eq, en⟩ | ⟨k0, k1, eq, en⟩
      · clear hk
        subst k0
        have HA1 := hid (fun V => HAL.out 26214 (.inl rfl) V)
        clear HAL
        obtain ⟨ma, ema⟩ : ∃ n, mkv a 26214 l = n := ⟨_, rfl⟩
        obtain ⟨mb', emb⟩ : ∃ n, mkv b 26214 l = n := ⟨_, rfl⟩
        obtain ⟨mc, emc⟩ : ∃ n, mkv c 26214 l = n := ⟨_, rfl⟩
        rw [ema, emb, emc] at HA1
        rw [ema, emb, emc] at eq
        subst eq
        subst en
        clear ema emb emc
        obtain ⟨cG0, cG1, cG2⟩ := G.cells
        go_upto_region 7 with fail
        go_wp2_with fail
        refine (HA1.out _).mono ?_; rintro e V3 ⟨rfl, bq⟩
        clear cG0 cG1 cG2
        replace P := P.keep bq; replace G := G.keep bq; replace Z := Z.keep bq; replace N := N.keep bq; replace HB := btrans HB bq
        clear bq
        clear HA1
        obtain ⟨cN0, cN1, cN2, cN3, cN4, cN5, cN6, cN7, cN8, cN9, cN10⟩ := N.cells
        obtain ⟨tN0, tN1, tN2, tN3, tN4, tN5, tN6, tN7, tN8, tN9, tN10⟩ := N.thaw
        try dsimp only at cN0 cN1 cN2 cN3 cN4 cN5 cN6 cN7 cN8 cN9 cN10
        go_upto_region 10 with fail
        clear cN0 cN1 cN2 cN3 cN4 cN5 cN6 cN7 cN8 cN9 cN10 tN0 tN1 tN2 tN3 tN4 tN5 tN6 tN7 tN8 tN9 tN10
        replace P := P.fr (fr3 _ kb 6 7 8 (.int .i64 ma) (.int .i64 mb') (.int .i64 mc)) (show ¬ (mb = kb) by omega)
        replace G := G.fr (fr3 _ kb 6 7 8 (.int .i64 ma) (.int .i64 mb') (.int .i64 mc)) (show ¬ (mb + 1 = kb) by omega)
        replace Z := Z.fr (fr3 _ kb 6 7 8 (.int .i64 ma) (.int .i64 mb') (.int .i64 mc)) (show ¬ (mb + 1 + 1 = kb) by omega)
        replace N := N.vel ma mb' mc
        replace HB := below_fr HB (fr3 _ kb 6 7 8 (.int .i64 ma) (.int .i64 mb') (.int .i64 mc)) (Nat.le_refl _) (by intro k hk; replace hk : k = kb := hk; omega)
        replace P := P.fr (fr1 _ kb 9 (.int .i64 200)) (show ¬ (mb = kb) by omega)
        replace G := G.fr (fr1 _ kb 9 (.int .i64 200)) (show ¬ (mb + 1 = kb) by omega)
        replace Z := Z.fr (fr1 _ kb 9 (.int .i64 200)) (show ¬ (mb + 1 + 1 = kb) by omega)
        replace N := N.s9 200
        replace HB := below_fr HB (fr1 _ kb 9 (.int .i64 200)) (Nat.le_refl _) (by intro k hk; replace hk : k = kb := hk; omega)
        generalize (((V3.setCell ⟨kb, 6, none⟩ (.int .i64 ma)).setCell ⟨kb, 7, none⟩ (.int .i64 mb')).setCell ⟨kb, 8, none⟩ (.int .i64 mc)).setCell ⟨kb, 9, none⟩ (.int .i64 200) = V4 at *
        replace N : ShAt V4 kb ⟨i, o, 0, x, y, z, ma, mb', mc, 200, false⟩ := N
        go_wp2_with (first | (refine wpList_ldS (by rfl) _ rfl _ _ rfl (by assumption) ?_) | (refine wpList_stS (by rfl) _ _ rfl _ _ ((⟨i, o, 0, x, y, z, ma, mb', mc, 200, false⟩ : Sh)) rfl rfl (by assumption) (fun V9 hN hF => ?_)))
        replace P := P.fr hF (show ¬ (mb = mb + 1 + 1) by omega)
        replace G := G.fr hF (show ¬ (mb + 1 = mb + 1 + 1) by omega)
        replace Z := hN
        replace N := N.fr hF (show ¬ (kb = mb + 1 + 1) by omega)
        replace HB := below_fr HB hF (Nat.le_refl _) (by intro k hk; replace hk : k = mb + 1 + 1 := hk; omega)
        clear hN hF
        obtain ⟨cZ0, cZ1, cZ2, cZ3, cZ4, cZ5, cZ6, cZ7, cZ8, cZ9, cZ10⟩ := Z.cells
        refine bodyPost_ret (v := .tuple #[.agg #[.int .i64 (⟨i, o, 0, x, y, z, ma, mb', mc, 200, false⟩ : Sh).id, .int .i64 (⟨i, o, 0, x, y, z, ma, mb', mc, 200, false⟩ : Sh).ow, .int .i64 (⟨i, o, 0, x, y, z, ma, mb', mc, 200, false⟩ : Sh).kd, .int .i64 (⟨i, o, 0, x, y, z, ma, mb', mc, 200, false⟩ : Sh).px, .int .i64 (⟨i, o, 0, x, y, z, ma, mb', mc, 200, false⟩ : Sh).py, .int .i64 (⟨i, o, 0, x, y, z, ma, mb', mc, 200, false⟩ : Sh).pz, .int .i64 (⟨i, o, 0, x, y, z, ma, mb', mc, 200, false⟩ : Sh).vx, .int .i64 (⟨i, o, 0, x, y, z, ma, mb', mc, 200, false⟩ : Sh).vy, .int .i64 (⟨i, o, 0, x, y, z, ma, mb', mc, 200, false⟩ : Sh).vz, .int .i64 (⟨i, o, 0, x, y, z, ma, mb', mc, 200, false⟩ : Sh).fu, .bool (⟨i, o, 0, x, y, z, ma, mb', mc, 200, false⟩ : Sh).rs], .int .i64 0]) ?_ rfl ⟨rfl, HB⟩
        simp [results, Try.results12, go_sem, cZ0, cZ1, cZ2, cZ3, cZ4, cZ5, cZ6, cZ7, cZ8, cZ9, cZ10]
      · clear hk
        clear k0; subst k1
        have HA1 := hid (fun V => HAL.out 16384 (.inr rfl) V)
        clear HAL
        obtain ⟨ma, ema⟩ : ∃ n, mkv a 16384 l = n := ⟨_, rfl⟩
        obtain ⟨mb', emb⟩ : ∃ n, mkv b 16384 l = n := ⟨_, rfl⟩
        obtain ⟨mc, emc⟩ : ∃ n, mkv c 16384 l = n := ⟨_, rfl⟩
        rw [ema, emb, emc] at HA1
        rw [ema, emb, emc] at eq
        subst eq
        subst en
        clear ema emb emc
        obtain ⟨cG0, cG1, cG2⟩ := G.cells
        go_upto_region 9 with fail
        go_wp2_with fail
        refine (HA1.out _).mono ?_; rintro e V3 ⟨rfl, bq⟩
        clear cG0 cG1 cG2
        replace P := P.keep bq; replace G := G.keep bq; replace Z := Z.keep bq; replace N := N.keep bq; replace HB := btrans HB bq
        clear bq
        clear HA1
        obtain ⟨cN0, cN1, cN2, cN3, cN4, cN5, cN6, cN7, cN8, cN9, cN10⟩ := N.cells
        obtain ⟨tN0, tN1, tN2, tN3, tN4, tN5, tN6, tN7, tN8, tN9, tN10⟩ := N.thaw
        try dsimp only at cN0 cN1 cN2 cN3 cN4 cN5 cN6 cN7 cN8 cN9 cN10
        go_upto_region 10 with fail
        clear cN0 cN1 cN2 cN3 cN4 cN5 cN6 cN7 cN8 cN9 cN10 tN0 tN1 tN2 tN3 tN4 tN5 tN6 tN7 tN8 tN9 tN10
        replace P := P.fr (fr3 _ kb 6 7 8 (.int .i64 ma) (.int .i64 mb') (.int .i64 mc)) (show ¬ (mb = kb) by omega)
        replace G := G.fr (fr3 _ kb 6 7 8 (.int .i64 ma) (.int .i64 mb') (.int .i64 mc)) (show ¬ (mb + 1 = kb) by omega)
        replace Z := Z.fr (fr3 _ kb 6 7 8 (.int .i64 ma) (.int .i64 mb') (.int .i64 mc)) (show ¬ (mb + 1 + 1 = kb) by omega)
        replace N := N.vel ma mb' mc
        replace HB := below_fr HB (fr3 _ kb 6 7 8 (.int .i64 ma) (.int .i64 mb') (.int .i64 mc)) (Nat.le_refl _) (by intro k hk; replace hk : k = kb := hk; omega)
        replace P := P.fr (fr1 _ kb 9 (.int .i64 60)) (show ¬ (mb = kb) by omega)
        replace G := G.fr (fr1 _ kb 9 (.int .i64 60)) (show ¬ (mb + 1 = kb) by omega)
        replace Z := Z.fr (fr1 _ kb 9 (.int .i64 60)) (show ¬ (mb + 1 + 1 = kb) by omega)
        replace N := N.s9 60
        replace HB := below_fr HB (fr1 _ kb 9 (.int .i64 60)) (Nat.le_refl _) (by intro k hk; replace hk : k = kb := hk; omega)
        generalize (((V3.setCell ⟨kb, 6, none⟩ (.int .i64 ma)).setCell ⟨kb, 7, none⟩ (.int .i64 mb')).setCell ⟨kb, 8, none⟩ (.int .i64 mc)).setCell ⟨kb, 9, none⟩ (.int .i64 60) = V4 at *
        replace N : ShAt V4 kb ⟨i, o, 1, x, y, z, ma, mb', mc, 60, false⟩ := N
        go_wp2_with (first | (refine wpList_ldS (by rfl) _ rfl _ _ rfl (by assumption) ?_) | (refine wpList_stS (by rfl) _ _ rfl _ _ ((⟨i, o, 1, x, y, z, ma, mb', mc, 60, false⟩ : Sh)) rfl rfl (by assumption) (fun V9 hN hF => ?_)))
        replace P := P.fr hF (show ¬ (mb = mb + 1 + 1) by omega)
        replace G := G.fr hF (show ¬ (mb + 1 = mb + 1 + 1) by omega)
        replace Z := hN
        replace N := N.fr hF (show ¬ (kb = mb + 1 + 1) by omega)
        replace HB := below_fr HB hF (Nat.le_refl _) (by intro k hk; replace hk : k = mb + 1 + 1 := hk; omega)
        clear hN hF
        obtain ⟨cZ0, cZ1, cZ2, cZ3, cZ4, cZ5, cZ6, cZ7, cZ8, cZ9, cZ10⟩ := Z.cells
        refine bodyPost_ret (v := .tuple #[.agg #[.int .i64 (⟨i, o, 1, x, y, z, ma, mb', mc, 60, false⟩ : Sh).id, .int .i64 (⟨i, o, 1, x, y, z, ma, mb', mc, 60, false⟩ : Sh).ow, .int .i64 (⟨i, o, 1, x, y, z, ma, mb', mc, 60, false⟩ : Sh).kd, .int .i64 (⟨i, o, 1, x, y, z, ma, mb', mc, 60, false⟩ : Sh).px, .int .i64 (⟨i, o, 1, x, y, z, ma, mb', mc, 60, false⟩ : Sh).py, .int .i64 (⟨i, o, 1, x, y, z, ma, mb', mc, 60, false⟩ : Sh).pz, .int .i64 (⟨i, o, 1, x, y, z, ma, mb', mc, 60, false⟩ : Sh).vx, .int .i64 (⟨i, o, 1, x, y, z, ma, mb', mc, 60, false⟩ : Sh).vy, .int .i64 (⟨i, o, 1, x, y, z, ma, mb', mc, 60, false⟩ : Sh).vz, .int .i64 (⟨i, o, 1, x, y, z, ma, mb', mc, 60, false⟩ : Sh).fu, .bool (⟨i, o, 1, x, y, z, ma, mb', mc, 60, false⟩ : Sh).rs], .int .i64 0]) ?_ rfl ⟨rfl, HB⟩
        simp [results, Try.results12, go_sem, cZ0, cZ1, cZ2, cZ3, cZ4, cZ5, cZ6, cZ7, cZ8, cZ9, cZ10]
      · clear hk HAL
        subst eq
        subst en
        go_wp2_with (first | (refine wpList_ldS (by rfl) _ rfl _ _ rfl (by assumption) ?_) | (refine wpList_stS (by rfl) _ _ rfl _ _ (noSh) rfl rfl (by assumption) (fun V9 hN hF => ?_)))
        replace P := P.fr hF (show ¬ (mb = mb + 1 + 1) by omega)
        replace G := G.fr hF (show ¬ (mb + 1 = mb + 1 + 1) by omega)
        replace Z := hN
        replace N := N.fr hF (show ¬ (kb = mb + 1 + 1) by omega)
        replace HB := below_fr HB hF (Nat.le_refl _) (by intro k hk; replace hk : k = mb + 1 + 1 := hk; omega)
        clear hN hF
        obtain ⟨cZ0, cZ1, cZ2, cZ3, cZ4, cZ5, cZ6, cZ7, cZ8, cZ9, cZ10⟩ := Z.cells
        refine bodyPost_ret (v := .tuple #[.agg #[.int .i64 noSh.id, .int .i64 noSh.ow, .int .i64 noSh.kd, .int .i64 noSh.px, .int .i64 noSh.py, .int .i64 noSh.pz, .int .i64 noSh.vx, .int .i64 noSh.vy, .int .i64 noSh.vz, .int .i64 noSh.fu, .bool noSh.rs], .int .i64 1]) ?_ rfl ⟨rfl, HB⟩
        simp [results, Try.results12, go_sem, cZ0, cZ1, cZ2, cZ3, cZ4, cZ5, cZ6, cZ7, cZ8, cZ9, cZ10]

end Go.Proofs.Ythcmcjklhcfenaa
