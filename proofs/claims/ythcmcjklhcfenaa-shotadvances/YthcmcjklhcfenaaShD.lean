/- Layer 12 (shot): the contracts of Step and Advance. -/
import Derived.Test.YthcmcjklhcfenaaShC
namespace Go.Proofs.Ythcmcjklhcfenaa
open Go.RowKit
set_option linter.unusedVariables false
set_option linter.unusedSimpArgs false
attribute [local go_sem ↓] Go.wp_at_zero Go.wp_at_succ

theorem Sh.In.mono {s : Sh} {K F K' F' : Int} (h : s.In K F) (hk : K ≤ K') (hf : F ≤ F') : s.In K' F' := by
  obtain ⟨x0, x1, y0, y1, z0, z1, a0, a1, b0, b1, c0, c1, f0, f1⟩ := h
  exact ⟨by omega, by omega, by omega, by omega, by omega, by omega, a0, a1, b0, b1, c0, c1, by omega, by omega⟩
set_option maxRecDepth 100000 in
set_option maxHeartbeats 8000000 in
theorem shotStep (W D H : Int) (mp : Option Addr) (mn mc : Nat) (mf : Nat → Bool) (sp : Option Addr) (sn sc : Nat) (s : Sh) (hs : s.In 900000000 9000000) (q : Sh) (t : Bool) (hq : sstep (mpOf W D H mn mf).sol s = (q, t)) (w : World) (hm : Arg w mp mn mc fun i => .bool (mf i)) :
    Calls Try.prog 13 #[.agg #[.int .i64 W, .int .i64 D, .int .i64 H, .slice mp mn mc, .slice sp sn sc], .agg #[.int .i64 s.id, .int .i64 s.ow, .int .i64 s.kd, .int .i64 s.px, .int .i64 s.py, .int .i64 s.pz, .int .i64 s.vx, .int .i64 s.vy, .int .i64 s.vz, .int .i64 s.fu, .bool s.rs]] w fun e w' => e = .returned (.tuple #[.agg #[.int .i64 q.id, .int .i64 q.ow, .int .i64 q.kd, .int .i64 q.px, .int .i64 q.py, .int .i64 q.pz, .int .i64 q.vx, .int .i64 q.vy, .int .i64 q.vz, .int .i64 q.fu, .bool q.rs], .bool t]) ∧ Below w.heap.size w w' := by
  obtain ⟨s1, es1⟩ : ∃ s1 : Sh, ({ s with fu := s.fu - 1 } : Sh) = s1 := ⟨_, rfl⟩
  have h1 : s1.In 1000000000 10000000 := by
    rw [← es1]
    obtain ⟨x0, x1, y0, y1, z0, z1, a0, a1, b0, b1, c0, c1, f0, f1⟩ := hs
    constructor <;> dsimp only <;> omega
  have f0 := hs.f0; have f1 := hs.f1
  have HSUB := hid (fun V => fixSub s.fu 1 (i64_in (by omega) (by omega)) (i64_in (by omega) (by omega)) V)
  rw [sat_id (i64_in (n := s.fu - 1) (by omega) (by omega))] at HSUB
  have HF := hid (fun d hd q hq V (hV : Below w.heap.size w V) => shotFlown W D H mp mn mc mf sp sn sc s1 h1 d hd q hq V (hm.keep hV))
  have HBN := hid (fun q hq V (hV : Below w.heap.size w V) => shotBounced W D H mp mn mc mf sp sn sc s1 h1 q hq V (hm.keep hV))
  unfold sstep at hq
  obtain ⟨S, eS⟩ : ∃ S, (mpOf W D H mn mf).sol = S := ⟨_, rfl⟩
  rw [eS] at HF HBN hq
  obtain ⟨u, eu⟩ : ∃ n, s.fu - 1 = n := ⟨_, rfl⟩
  rw [eu] at HSUB hq es1
  simp only [es1] at hq
  clear eS eu h1 hs hm f0 f1
  have O : O5 (((w.alloc (.cells #[.int .i64 W, .int .i64 D, .int .i64 H, .slice mp mn mc, .slice sp sn sc] 25)).alloc (.cells #[.int .i64 s.id, .int .i64 s.ow, .int .i64 s.kd, .int .i64 s.px, .int .i64 s.py, .int .i64 s.pz, .int .i64 s.vx, .int .i64 s.vy, .int .i64 s.vz, .int .i64 s.fu, .bool s.rs] 33)).alloc (.cells #[.int .i64 0, .int .i64 0, .int .i64 0, .int .i64 0, .int .i64 0, .int .i64 0, .int .i64 0, .int .i64 0, .int .i64 0, .int .i64 0, .bool false] 33)) (w.heap.size) (.int .i64 W) (.int .i64 D) (.int .i64 H) (.slice mp mn mc) (.slice sp sn sc) := ((O5.new _ _ _ _ _ _).alloc _).alloc _
  have P : ShAt (((w.alloc (.cells #[.int .i64 W, .int .i64 D, .int .i64 H, .slice mp mn mc, .slice sp sn sc] 25)).alloc (.cells #[.int .i64 s.id, .int .i64 s.ow, .int .i64 s.kd, .int .i64 s.px, .int .i64 s.py, .int .i64 s.pz, .int .i64 s.vx, .int .i64 s.vy, .int .i64 s.vz, .int .i64 s.fu, .bool s.rs] 33)).alloc (.cells #[.int .i64 0, .int .i64 0, .int .i64 0, .int .i64 0, .int .i64 0, .int .i64 0, .int .i64 0, .int .i64 0, .int .i64 0, .int .i64 0, .bool false] 33)) (w.heap.size + 1) s := (ShAt.new' _ _ (by simp)).alloc _
  have Z : ShAt (((w.alloc (.cells #[.int .i64 W, .int .i64 D, .int .i64 H, .slice mp mn mc, .slice sp sn sc] 25)).alloc (.cells #[.int .i64 s.id, .int .i64 s.ow, .int .i64 s.kd, .int .i64 s.px, .int .i64 s.py, .int .i64 s.pz, .int .i64 s.vx, .int .i64 s.vy, .int .i64 s.vz, .int .i64 s.fu, .bool s.rs] 33)).alloc (.cells #[.int .i64 0, .int .i64 0, .int .i64 0, .int .i64 0, .int .i64 0, .int .i64 0, .int .i64 0, .int .i64 0, .int .i64 0, .int .i64 0, .bool false] 33)) (w.heap.size + 1 + 1) noSh := ShAt.new' _ noSh (by simp)
  have HB : Below w.heap.size w (((w.alloc (.cells #[.int .i64 W, .int .i64 D, .int .i64 H, .slice mp mn mc, .slice sp sn sc] 25)).alloc (.cells #[.int .i64 s.id, .int .i64 s.ow, .int .i64 s.kd, .int .i64 s.px, .int .i64 s.py, .int .i64 s.pz, .int .i64 s.vx, .int .i64 s.vy, .int .i64 s.vz, .int .i64 s.fu, .bool s.rs] 33)).alloc (.cells #[.int .i64 0, .int .i64 0, .int .i64 0, .int .i64 0, .int .i64 0, .int .i64 0, .int .i64 0, .int .i64 0, .int .i64 0, .int .i64 0, .bool false] 33)) := (((Below.refl _ _).alloc (Nat.le_refl _) _).alloc (by simp) _).alloc (by simp; omega) _
  go_enter Try.func13, Try.ntmps13
  go_upto_region 1 with fail
  obtain ⟨mb, hmb⟩ : ∃ b, w.heap.size = b := ⟨_, rfl⟩
  have hwm : w.heap.size ≤ mb := by omega
  rw [hmb] at O P Z
  try simp only [hmb]
  generalize (((w.alloc (.cells #[.int .i64 W, .int .i64 D, .int .i64 H, .slice mp mn mc, .slice sp sn sc] 25)).alloc (.cells #[.int .i64 s.id, .int .i64 s.ow, .int .i64 s.kd, .int .i64 s.px, .int .i64 s.py, .int .i64 s.pz, .int .i64 s.vx, .int .i64 s.vy, .int .i64 s.vz, .int .i64 s.fu, .bool s.rs] 33)).alloc (.cells #[.int .i64 0, .int .i64 0, .int .i64 0, .int .i64 0, .int .i64 0, .int .i64 0, .int .i64 0, .int .i64 0, .int .i64 0, .int .i64 0, .bool false] 33)) = V0 at *
  clear hmb
  obtain ⟨cP0, cP1, cP2, cP3, cP4, cP5, cP6, cP7, cP8, cP9, cP10⟩ := P.cells
  go_wp2_with fail
  refine (HSUB.out _).mono ?_; rintro e V1 ⟨rfl, hv⟩
  replace hv := hv.symm; subst hv
  clear HSUB
  obtain ⟨tP0, tP1, tP2, tP3, tP4, tP5, tP6, tP7, tP8, tP9, tP10⟩ := P.thaw
  go_upto_region 2 with fail
  clear cP0 cP1 cP2 cP3 cP4 cP5 cP6 cP7 cP8 cP9 cP10 tP0 tP1 tP2 tP3 tP4 tP5 tP6 tP7 tP8 tP9 tP10
  replace O := O.fr (fr1 _ (mb + 1) 9 (.int .i64 u)) (show ¬ (mb = mb + 1) by omega)
  replace P := P.s9 u
  replace Z := Z.fr (fr1 _ (mb + 1) 9 (.int .i64 u)) (show ¬ (mb + 1 + 1 = mb + 1) by omega)
  replace HB := below_fr HB (fr1 _ (mb + 1) 9 (.int .i64 u)) (Nat.le_refl _) (by intro k hk; replace hk : k = mb + 1 := hk; omega)
  generalize V0.setCell ⟨mb + 1, 9, none⟩ (.int .i64 u) = V2 at *
  have eu : s1.fu = u := by rw [← es1]
  have er : s1.rs = s.rs := by rw [← es1]
  have ek : s1.kd = s.kd := by rw [← es1]
  rw [es1] at P
  obtain ⟨cP0, cP1, cP2, cP3, cP4, cP5, cP6, cP7, cP8, cP9, cP10⟩ := P.cells
  rw [eu] at cP9; rw [er] at cP10; rw [ek] at cP2
  clear eu er ek
  replace es1 := hid es1
  by_cases hu : u ≤ 0
  · have hq1 : (s1, true) = (q, t) := by rw [← hq, if_pos hu]
    obtain ⟨rfl, rfl⟩ := Prod.mk.inj hq1
    clear HF HBN hq hq1
    go_upto_region 3 with fail
    clear cP0 cP1 cP2 cP3 cP4 cP5 cP6 cP7 cP8 cP9 cP10
    go_wp2_with (first | (refine wpList_ldS (by rfl) _ rfl _ _ rfl (by assumption) ?_) | (refine wpList_stS (by rfl) _ _ rfl _ _ (s1) rfl rfl (by assumption) (fun V9 hN hF => ?_)))
    replace O := O.fr hF (show ¬ (mb = mb + 1 + 1) by omega)
    replace P := P.fr hF (show ¬ (mb + 1 = mb + 1 + 1) by omega)
    replace Z := hN
    replace HB := below_fr HB hF (Nat.le_refl _) (by intro k hk; replace hk : k = mb + 1 + 1 := hk; omega)
    clear hN hF
    obtain ⟨cZ0, cZ1, cZ2, cZ3, cZ4, cZ5, cZ6, cZ7, cZ8, cZ9, cZ10⟩ := Z.cells
    refine bodyPost_ret (v := .tuple #[.agg #[.int .i64 s1.id, .int .i64 s1.ow, .int .i64 s1.kd, .int .i64 s1.px, .int .i64 s1.py, .int .i64 s1.pz, .int .i64 s1.vx, .int .i64 s1.vy, .int .i64 s1.vz, .int .i64 s1.fu, .bool s1.rs], .bool true]) ?_ rfl ⟨rfl, HB⟩
    simp [results, Try.results13, go_sem, cZ0, cZ1, cZ2, cZ3, cZ4, cZ5, cZ6, cZ7, cZ8, cZ9, cZ10]
  · rw [if_neg hu] at hq
    obtain ⟨r, hr⟩ : ∃ b, s.rs = b := ⟨_, rfl⟩
    rw [hr] at cP10 hq
    cases r with
    | true =>
      have hq1 : (s1, false) = (q, t) := by rw [← hq, if_pos rfl]
      obtain ⟨rfl, rfl⟩ := Prod.mk.inj hq1
      clear HF HBN hq hq1 hr
      go_upto_region 5 with fail
      clear cP0 cP1 cP2 cP3 cP4 cP5 cP6 cP7 cP8 cP9 cP10
      go_wp2_with (first | (refine wpList_ldS (by rfl) _ rfl _ _ rfl (by assumption) ?_) | (refine wpList_stS (by rfl) _ _ rfl _ _ (s1) rfl rfl (by assumption) (fun V9 hN hF => ?_)))
      replace O := O.fr hF (show ¬ (mb = mb + 1 + 1) by omega)
      replace P := P.fr hF (show ¬ (mb + 1 = mb + 1 + 1) by omega)
      replace Z := hN
      replace HB := below_fr HB hF (Nat.le_refl _) (by intro k hk; replace hk : k = mb + 1 + 1 := hk; omega)
      clear hN hF
      obtain ⟨cZ0, cZ1, cZ2, cZ3, cZ4, cZ5, cZ6, cZ7, cZ8, cZ9, cZ10⟩ := Z.cells
      refine bodyPost_ret (v := .tuple #[.agg #[.int .i64 s1.id, .int .i64 s1.ow, .int .i64 s1.kd, .int .i64 s1.px, .int .i64 s1.py, .int .i64 s1.pz, .int .i64 s1.vx, .int .i64 s1.vy, .int .i64 s1.vz, .int .i64 s1.fu, .bool s1.rs], .bool false]) ?_ rfl ⟨rfl, HB⟩
      simp [results, Try.results13, go_sem, cZ0, cZ1, cZ2, cZ3, cZ4, cZ5, cZ6, cZ7, cZ8, cZ9, cZ10]
    | false =>
      rw [if_neg (by simp)] at hq
      replace hr := hid hr
      by_cases hk : s.kd = 0
      · rw [if_pos hk] at hq
        obtain ⟨d, hd⟩ : ∃ d, S (s.px + s.vx) (s.py + s.vy) (s.pz + s.vz) = d := ⟨_, rfl⟩
        rw [hd] at hq
        have htq : d = t ∧ (if d = true then s1 else { s1 with px := s1.px + s1.vx, py := s1.py + s1.vy, pz := s1.pz + s1.vz }) = q := by
          cases d with
          | true => rw [if_pos rfl] at hq; obtain ⟨rfl, rfl⟩ := Prod.mk.inj hq; exact ⟨rfl, if_pos rfl⟩
          | false => rw [if_neg (by simp)] at hq; obtain ⟨rfl, rfl⟩ := Prod.mk.inj hq; refine ⟨rfl, ?_⟩; rw [if_neg (by simp)]; have es1 := es1.out; subst es1; dsimp only; rw [hr.out]
        obtain ⟨rfl, hq2⟩ := htq
        replace HF := hid (HF.out d (by rw [← es1.out]; exact hd) q hq2)
        clear hq hq2 hd HBN
        go_upto_region 7 with fail
        clear cP0 cP1 cP2 cP3 cP4 cP5 cP6 cP7 cP8 cP9 cP10
        obtain ⟨cO0, cO1, cO2, cO3, cO4⟩ := O.cells
        go_wp2_with (refine wpList_ldS (by rfl) _ rfl _ _ rfl (by assumption) ?_)
        refine (HF.out _ HB).mono ?_; rintro e V3 ⟨rfl, bq⟩
        clear cO0 cO1 cO2 cO3 cO4
        replace O := O.keep bq; replace P := P.keep bq; replace Z := Z.keep bq; replace HB := btrans HB bq
        clear bq
        go_wp2_with (first | (refine wpList_ldS (by rfl) _ rfl _ _ rfl (by assumption) ?_) | (refine wpList_stS (by rfl) _ _ rfl _ _ (q) rfl rfl (by assumption) (fun V9 hN hF => ?_)))
        replace O := O.fr hF (show ¬ (mb = mb + 1 + 1) by omega)
        replace P := P.fr hF (show ¬ (mb + 1 = mb + 1 + 1) by omega)
        replace Z := hN
        replace HB := below_fr HB hF (Nat.le_refl _) (by intro k hk; replace hk : k = mb + 1 + 1 := hk; omega)
        clear hN hF
        obtain ⟨cZ0, cZ1, cZ2, cZ3, cZ4, cZ5, cZ6, cZ7, cZ8, cZ9, cZ10⟩ := Z.cells
        refine bodyPost_ret (v := .tuple #[.agg #[.int .i64 q.id, .int .i64 q.ow, .int .i64 q.kd, .int .i64 q.px, .int .i64 q.py, .int .i64 q.pz, .int .i64 q.vx, .int .i64 q.vy, .int .i64 q.vz, .int .i64 q.fu, .bool q.rs], .bool d]) ?_ rfl ⟨rfl, HB⟩
        simp [results, Try.results13, go_sem, cZ0, cZ1, cZ2, cZ3, cZ4, cZ5, cZ6, cZ7, cZ8, cZ9, cZ10]
      · rw [if_neg hk] at hq
        obtain ⟨hq1, rfl⟩ := Prod.mk.inj hq
        replace HBN := hid (HBN.out q (by rw [← hq1, ← es1.out]))
        clear hq hq1 HF
        go_upto_region 8 with fail
        clear cP0 cP1 cP2 cP3 cP4 cP5 cP6 cP7 cP8 cP9 cP10
        obtain ⟨cO0, cO1, cO2, cO3, cO4⟩ := O.cells
        go_wp2_with (refine wpList_ldS (by rfl) _ rfl _ _ rfl (by assumption) ?_)
        refine (HBN.out _ HB).mono ?_; rintro e V3 ⟨rfl, bq⟩
        clear cO0 cO1 cO2 cO3 cO4
        replace O := O.keep bq; replace P := P.keep bq; replace Z := Z.keep bq; replace HB := btrans HB bq
        clear bq
        go_wp2_with (first | (refine wpList_ldS (by rfl) _ rfl _ _ rfl (by assumption) ?_) | (refine wpList_stS (by rfl) _ _ rfl _ _ (q) rfl rfl (by assumption) (fun V9 hN hF => ?_)))
        replace O := O.fr hF (show ¬ (mb = mb + 1 + 1) by omega)
        replace P := P.fr hF (show ¬ (mb + 1 = mb + 1 + 1) by omega)
        replace Z := hN
        replace HB := below_fr HB hF (Nat.le_refl _) (by intro k hk; replace hk : k = mb + 1 + 1 := hk; omega)
        clear hN hF
        obtain ⟨cZ0, cZ1, cZ2, cZ3, cZ4, cZ5, cZ6, cZ7, cZ8, cZ9, cZ10⟩ := Z.cells
        refine bodyPost_ret (v := .tuple #[.agg #[.int .i64 q.id, .int .i64 q.ow, .int .i64 q.kd, .int .i64 q.px, .int .i64 q.py, .int .i64 q.pz, .int .i64 q.vx, .int .i64 q.vy, .int .i64 q.vz, .int .i64 q.fu, .bool q.rs], .bool false]) ?_ rfl ⟨rfl, HB⟩
        simp [results, Try.results13, go_sem, cZ0, cZ1, cZ2, cZ3, cZ4, cZ5, cZ6, cZ7, cZ8, cZ9, cZ10]
theorem adv_eq {S : Int → Int → Int → Bool} {n : Nat} {s : Sh} {q : Sh × Nat × Bool} (h : adv S (n + 1) s = q) (s1 : Sh) (t : Bool) (hs : sstep S s = (s1, t)) :
    (t = true ∧ q = (s1, 1, true)) ∨ (t = false ∧ ∃ r, adv S n s1 = r ∧ q = (r.1, r.2.1 + 1, r.2.2)) := by
  rw [adv_succ, hs] at h
  cases t with
  | true => exact .inl ⟨rfl, by rw [← h]; rfl⟩
  | false => exact .inr ⟨rfl, _, rfl, by rw [← h]; rfl⟩
set_option maxRecDepth 100000 in
set_option maxHeartbeats 8000000 in
theorem shotAdvance (W D H : Int) (mp : Option Addr) (mn mc : Nat) (mf : Nat → Bool) (sp : Option Addr) (sn sc : Nat) (s : Sh) (hs : s.In 500000000 5000000) (n : Int) (h0 : -1000 ≤ n) (h1 : n ≤ 1000) (q : Sh) (j : Nat) (t : Bool) (hq : adv (mpOf W D H mn mf).sol n.toNat s = (q, j, t)) (w : World) (hm : Arg w mp mn mc fun i => .bool (mf i)) :
    Calls Try.prog 15 #[.agg #[.int .i64 W, .int .i64 D, .int .i64 H, .slice mp mn mc, .slice sp sn sc], .agg #[.int .i64 s.id, .int .i64 s.ow, .int .i64 s.kd, .int .i64 s.px, .int .i64 s.py, .int .i64 s.pz, .int .i64 s.vx, .int .i64 s.vy, .int .i64 s.vz, .int .i64 s.fu, .bool s.rs], .int .i64 n] w fun e w' => e = .returned (.tuple #[.agg #[.int .i64 q.id, .int .i64 q.ow, .int .i64 q.kd, .int .i64 q.px, .int .i64 q.py, .int .i64 q.pz, .int .i64 q.vx, .int .i64 q.vy, .int .i64 q.vz, .int .i64 q.fu, .bool q.rs], .int .i64 j, .bool t]) ∧ Below w.heap.size w w' := by
  have HST := hid (fun s (hs : Sh.In s 900000000 9000000) q t hq V (hV : Below w.heap.size w V) => shotStep W D H mp mn mc mf sp sn sc s hs q t hq V (hm.keep hV))
  obtain ⟨S, eS⟩ : ∃ S, (mpOf W D H mn mf).sol = S := ⟨_, rfl⟩
  rw [eS] at HST hq
  obtain ⟨m, hn⟩ : ∃ m : Nat, n.toNat = m := ⟨_, rfl⟩
  rw [hn] at hq
  have hmm : (m : Int) = max n 0 := by omega
  have hm1 : m ≤ 1000 := by omega
  have HMX := hid (max_is' n 0)
  rw [← hmm] at HMX
  have HN := hid hn
  have hs := hid hs; have hq := hid hq
  have hml := hid (show ∀ i : Nat, ((i : Int) < n ↔ i < m) from fun i => by omega)
  clear eS hm hn hmm
  have O : O5 (((w.alloc (.cells #[.int .i64 W, .int .i64 D, .int .i64 H, .slice mp mn mc, .slice sp sn sc] 25)).alloc (.cells #[.int .i64 s.id, .int .i64 s.ow, .int .i64 s.kd, .int .i64 s.px, .int .i64 s.py, .int .i64 s.pz, .int .i64 s.vx, .int .i64 s.vy, .int .i64 s.vz, .int .i64 s.fu, .bool s.rs] 33)).alloc (.cells #[.int .i64 0, .int .i64 0, .int .i64 0, .int .i64 0, .int .i64 0, .int .i64 0, .int .i64 0, .int .i64 0, .int .i64 0, .int .i64 0, .bool false] 33)) (w.heap.size) (.int .i64 W) (.int .i64 D) (.int .i64 H) (.slice mp mn mc) (.slice sp sn sc) := ((O5.new _ _ _ _ _ _).alloc _).alloc _
  have P : ShAt (((w.alloc (.cells #[.int .i64 W, .int .i64 D, .int .i64 H, .slice mp mn mc, .slice sp sn sc] 25)).alloc (.cells #[.int .i64 s.id, .int .i64 s.ow, .int .i64 s.kd, .int .i64 s.px, .int .i64 s.py, .int .i64 s.pz, .int .i64 s.vx, .int .i64 s.vy, .int .i64 s.vz, .int .i64 s.fu, .bool s.rs] 33)).alloc (.cells #[.int .i64 0, .int .i64 0, .int .i64 0, .int .i64 0, .int .i64 0, .int .i64 0, .int .i64 0, .int .i64 0, .int .i64 0, .int .i64 0, .bool false] 33)) (w.heap.size + 1) s := (ShAt.new' _ _ (by simp)).alloc _
  have Z : ShAt (((w.alloc (.cells #[.int .i64 W, .int .i64 D, .int .i64 H, .slice mp mn mc, .slice sp sn sc] 25)).alloc (.cells #[.int .i64 s.id, .int .i64 s.ow, .int .i64 s.kd, .int .i64 s.px, .int .i64 s.py, .int .i64 s.pz, .int .i64 s.vx, .int .i64 s.vy, .int .i64 s.vz, .int .i64 s.fu, .bool s.rs] 33)).alloc (.cells #[.int .i64 0, .int .i64 0, .int .i64 0, .int .i64 0, .int .i64 0, .int .i64 0, .int .i64 0, .int .i64 0, .int .i64 0, .int .i64 0, .bool false] 33)) (w.heap.size + 1 + 1) noSh := ShAt.new' _ noSh (by simp)
  have HB : Below w.heap.size w (((w.alloc (.cells #[.int .i64 W, .int .i64 D, .int .i64 H, .slice mp mn mc, .slice sp sn sc] 25)).alloc (.cells #[.int .i64 s.id, .int .i64 s.ow, .int .i64 s.kd, .int .i64 s.px, .int .i64 s.py, .int .i64 s.pz, .int .i64 s.vx, .int .i64 s.vy, .int .i64 s.vz, .int .i64 s.fu, .bool s.rs] 33)).alloc (.cells #[.int .i64 0, .int .i64 0, .int .i64 0, .int .i64 0, .int .i64 0, .int .i64 0, .int .i64 0, .int .i64 0, .int .i64 0, .int .i64 0, .bool false] 33)) := (((Below.refl _ _).alloc (Nat.le_refl _) _).alloc (by simp) _).alloc (by simp; omega) _
  go_enter Try.func15, Try.ntmps15
  go_upto_region 1 with fail
  obtain ⟨mb, hmb⟩ : ∃ b, w.heap.size = b := ⟨_, rfl⟩
  have hwm : w.heap.size ≤ mb := by omega
  rw [hmb] at O P Z
  try simp only [hmb]
  generalize (((w.alloc (.cells #[.int .i64 W, .int .i64 D, .int .i64 H, .slice mp mn mc, .slice sp sn sc] 25)).alloc (.cells #[.int .i64 s.id, .int .i64 s.ow, .int .i64 s.kd, .int .i64 s.px, .int .i64 s.py, .int .i64 s.pz, .int .i64 s.vx, .int .i64 s.vy, .int .i64 s.vz, .int .i64 s.fu, .bool s.rs] 33)).alloc (.cells #[.int .i64 0, .int .i64 0, .int .i64 0, .int .i64 0, .int .i64 0, .int .i64 0, .int .i64 0, .int .i64 0, .int .i64 0, .int .i64 0, .bool false] 33)) = V0 at *
  clear hmb
  go_wp2
  go_loopw [13] (fun v wr => ∃ (i : Nat) (p : Sh) (V : World), v = .int .i64 i ∧ wr = V ∧ i ≤ m ∧ Hid (∃ r : Sh × Nat × Bool, adv S (m - i) p = r ∧ q = r.1 ∧ j = i + r.2.1 ∧ t = r.2.2) ∧ Hid (p.In (500000000 + i * 262144) (5000000 + i)) ∧ O5 V mb (.int .i64 W) (.int .i64 D) (.int .i64 H) (.slice mp mn mc) (.slice sp sn sc) ∧ ShAt V (mb + 1) p ∧ ShAt V (mb + 1 + 1) noSh ∧ Below w.heap.size w V) (fun v _ => m - (intOf v).toNat)
  case atStart =>
    exact ⟨0, s, _, rfl, rfl, Nat.zero_le _, hid ⟨_, rfl, by rw [Nat.sub_zero, hq.out]; exact ⟨rfl, by simp, rfl⟩⟩, hid (hs.out.mono (by omega) (by omega)), O, P, Z, HB⟩
  case round =>
    clear O P Z HB hq hs
    obtain ⟨i, p, V, rfl, eV, hi, hR, hI, O, P, Z, HB⟩ := hrel
    subst eV
    have hk := hml.out i
    by_cases h : i < m
    · have hI2 := hk.2 h
      obtain ⟨p1, f, hst⟩ : ∃ p1 f, sstep S p = (p1, f) := ⟨_, _, rfl⟩
      have hR2 : (f = true ∧ (q, j, t) = (p1, i + 1, true)) ∨ (f = false ∧ ∃ r : Sh × Nat × Bool, adv S (m - (i + 1)) p1 = r ∧ q = r.1 ∧ j = i + 1 + r.2.1 ∧ t = r.2.2) := by
        obtain ⟨r, hr, rfl, rfl, rfl⟩ := hR.out
        rw [show m - i = (m - (i + 1)) + 1 by omega] at hr
        rcases adv_eq hr p1 f hst with ⟨hf, rfl⟩ | ⟨hf, r2, hr2, rfl⟩
        · exact .inl ⟨hf, rfl⟩
        · exact .inr ⟨hf, r2, hr2, rfl, by dsimp only; omega, rfl⟩
      have hI3 : p1.In (500000000 + (i + 1 : Nat) * 262144) (5000000 + (i + 1 : Nat)) := by
        have := sstep_in (S := S) hI.out
        rw [hst] at this
        exact this.mono (by omega) (by omega)
      have HS1 := hid (HST.out p (hI.out.mono (by omega) (by omega)) p1 f hst)
      replace hI3 := hid hI3
      replace hR2 := hid hR2
      clear hR hI hst
      obtain ⟨cO0, cO1, cO2, cO3, cO4⟩ := O.cells
      go_wp2_with (refine wpList_ldS (by rfl) _ rfl _ _ rfl (by assumption) ?_)
      refine (HS1.out _ HB).mono ?_; rintro e V1 ⟨rfl, bq⟩
      clear cO0 cO1 cO2 cO3 cO4
      replace O := O.keep bq; replace P := P.keep bq; replace Z := Z.keep bq; replace HB := btrans HB bq
      clear bq HS1
      go_upto_region 5 with fail
      have lZ := Z.lt
      replace O := O.alloc (.cells #[.int .i64 p1.id, .int .i64 p1.ow, .int .i64 p1.kd, .int .i64 p1.px, .int .i64 p1.py, .int .i64 p1.pz, .int .i64 p1.vx, .int .i64 p1.vy, .int .i64 p1.vz, .int .i64 p1.fu, .bool p1.rs] 33)
      replace P := P.alloc (.cells #[.int .i64 p1.id, .int .i64 p1.ow, .int .i64 p1.kd, .int .i64 p1.px, .int .i64 p1.py, .int .i64 p1.pz, .int .i64 p1.vx, .int .i64 p1.vy, .int .i64 p1.vz, .int .i64 p1.fu, .bool p1.rs] 33)
      replace Z := Z.alloc (.cells #[.int .i64 p1.id, .int .i64 p1.ow, .int .i64 p1.kd, .int .i64 p1.px, .int .i64 p1.py, .int .i64 p1.pz, .int .i64 p1.vx, .int .i64 p1.vy, .int .i64 p1.vz, .int .i64 p1.fu, .bool p1.rs] 33)
      replace HB := HB.alloc HB.size (.cells #[.int .i64 p1.id, .int .i64 p1.ow, .int .i64 p1.kd, .int .i64 p1.px, .int .i64 p1.py, .int .i64 p1.pz, .int .i64 p1.vx, .int .i64 p1.vy, .int .i64 p1.vz, .int .i64 p1.fu, .bool p1.rs] 33)
      have N := ShAt.new V1 p1
      obtain ⟨nb, hnb⟩ : ∃ b, V1.heap.size = b := ⟨_, rfl⟩
      rw [hnb] at N lZ
      try simp only [hnb]
      generalize V1.alloc (.cells #[.int .i64 p1.id, .int .i64 p1.ow, .int .i64 p1.kd, .int .i64 p1.px, .int .i64 p1.py, .int .i64 p1.pz, .int .i64 p1.vx, .int .i64 p1.vy, .int .i64 p1.vz, .int .i64 p1.fu, .bool p1.rs] 33) = V2 at *
      clear hnb
      cases f with
      | true =>
        have e3 : (q, j, t) = (p1, i + 1, true) := hR2.out.elim (fun h => h.2) (fun h => absurd h.1 (by simp))
        obtain ⟨rfl, e4⟩ := Prod.mk.inj e3
        obtain ⟨rfl, rfl⟩ := Prod.mk.inj e4
        clear e3 e4
        have ew : IntKind.i64.wrap ((i : Int) + 1) = ((i + 1 : Nat) : Int) := by rw [wrapI (by omega) (by omega)]; rfl
        go_wp2_with (first | (refine wpList_ldS (by rfl) _ rfl _ _ rfl (by assumption) ?_) | (refine wpList_stS (by rfl) _ _ rfl _ _ (q) rfl rfl (by assumption) (fun V9 hN hF => ?_)))
        replace O := O.fr hF (show ¬ (mb = mb + 1 + 1) by omega)
        replace P := P.fr hF (show ¬ (mb + 1 = mb + 1 + 1) by omega)
        replace Z := hN
        replace N := N.fr hF (show ¬ (nb = mb + 1 + 1) by omega)
        replace HB := below_fr HB hF (Nat.le_refl _) (by intro k hk; replace hk : k = mb + 1 + 1 := hk; omega)
        clear hN hF
        obtain ⟨cZ0, cZ1, cZ2, cZ3, cZ4, cZ5, cZ6, cZ7, cZ8, cZ9, cZ10⟩ := Z.cells
        refine bodyPost_ret (v := .tuple #[.agg #[.int .i64 q.id, .int .i64 q.ow, .int .i64 q.kd, .int .i64 q.px, .int .i64 q.py, .int .i64 q.pz, .int .i64 q.vx, .int .i64 q.vy, .int .i64 q.vz, .int .i64 q.fu, .bool q.rs], .int .i64 ((i + 1 : Nat) : Int), .bool true]) ?_ rfl ⟨rfl, HB⟩
        simp [results, Try.results15, go_sem, cZ0, cZ1, cZ2, cZ3, cZ4, cZ5, cZ6, cZ7, cZ8, cZ9, cZ10]
      | false =>
        have e3 := hR2.out.elim (fun h => absurd h.1 (by simp)) (fun h => h.2)
        go_wp2_with (first | (refine wpList_ldS (by rfl) _ rfl _ _ rfl (by assumption) ?_) | (refine wpList_stS (by rfl) _ _ rfl _ _ (p1) rfl rfl (by assumption) (fun V9 hN hF => ?_)))
        replace O := O.fr hF (show ¬ (mb = mb + 1) by omega)
        replace P := hN
        replace Z := Z.fr hF (show ¬ (mb + 1 + 1 = mb + 1) by omega)
        replace N := N.fr hF (show ¬ (nb = mb + 1) by omega)
        replace HB := below_fr HB hF (Nat.le_refl _) (by intro k hk; replace hk : k = mb + 1 := hk; omega)
        clear hN hF
        exact ⟨⟨i + 1, p1, _, by go_num, rfl, by omega, hid e3, hI3, O, P, Z, HB⟩, by simp [intOf]; omega⟩
    · have hI2 : ¬ (i : Int) < n := fun h2 => h (hk.1 h2)
      obtain rfl : i = m := by omega
      clear hk hml
      have hz : p = q ∧ j = i ∧ t = false := by
        obtain ⟨r, hr, rfl, rfl, rfl⟩ := hR.out
        rw [Nat.sub_self] at hr
        obtain rfl := hr.symm
        exact ⟨rfl, by simp [adv], rfl⟩
      obtain ⟨rfl, rfl, rfl⟩ := hz
      clear hR hI
      have mx := HMX.out
      go_wp2_with (first | (refine wpList_ldS (by rfl) _ rfl _ _ rfl (by assumption) ?_) | (refine wpList_stS (by rfl) _ _ rfl _ _ (p) rfl rfl (by assumption) (fun V9 hN hF => ?_)))
      replace O := O.fr hF (show ¬ (mb = mb + 1 + 1) by omega)
      replace P := P.fr hF (show ¬ (mb + 1 = mb + 1 + 1) by omega)
      replace Z := hN
      replace HB := below_fr HB hF (Nat.le_refl _) (by intro k hk; replace hk : k = mb + 1 + 1 := hk; omega)
      clear hN hF
      obtain ⟨cZ0, cZ1, cZ2, cZ3, cZ4, cZ5, cZ6, cZ7, cZ8, cZ9, cZ10⟩ := Z.cells
      refine bodyPost_ret (v := .tuple #[.agg #[.int .i64 p.id, .int .i64 p.ow, .int .i64 p.kd, .int .i64 p.px, .int .i64 p.py, .int .i64 p.pz, .int .i64 p.vx, .int .i64 p.vy, .int .i64 p.vz, .int .i64 p.fu, .bool p.rs], .int .i64 (j : Int), .bool false]) ?_ rfl ⟨rfl, HB⟩
      simp [results, Try.results15, go_sem, cZ0, cZ1, cZ2, cZ3, cZ4, cZ5, cZ6, cZ7, cZ8, cZ9, cZ10]

end Go.Proofs.Ythcmcjklhcfenaa
