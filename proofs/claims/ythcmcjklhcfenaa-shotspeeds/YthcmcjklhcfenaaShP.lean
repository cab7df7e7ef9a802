/- Layer 12 (shot): the walk of ShotSpeeds. -/
import Derived.Test.YthcmcjklhcfenaaShI
import Derived.Test.YthcmcjklhcfenaaShJ
namespace Go.Proofs.Ythcmcjklhcfenaa
open Go.RowKit
set_option linter.unusedVariables false
set_option linter.unusedSimpArgs false
attribute [local go_sem ↓] Go.wp_at_zero Go.wp_at_succ

set_option maxRecDepth 100000 in
set_option maxHeartbeats 8000000 in
theorem shotSpeeds_walk (i o k x y z a b c : Int) (w : World) (hi : I64 i) (ho : I64 o) (hk : I64 k) (hx : I64 x) (hy : I64 y) (hz : I64 z) (ha : I64 a) (hb : I64 b) (hc : I64 c) :
    Calls Try.prog 6 #[.int .i64 i, .int .i64 o, .int .i64 k, .agg #[.int .i64 x, .int .i64 y, .int .i64 z], .agg #[.int .i64 a, .int .i64 b, .int .i64 c]] w fun e w' => e = .returned (.bool true) ∧ Below w.heap.size w w' := by
  obtain ⟨q, n, hq⟩ : ∃ q n, newS i o k x y z a b c = (q, n) := ⟨_, _, rfl⟩
  have HN := hid (fun V => shotNew i o k x y z a b c ha hb hc q n hq V)
  have HQ := hid (newS_cases hq)
  have EP := eqV x y z x y z
  simp only [beq_self_eq_true, Bool.and_true] at EP
  clear hq hi ho hk hx hy hz ha hb hc
  have P : O3 ((w.alloc (.cells #[.int .i64 x, .int .i64 y, .int .i64 z] 27)).alloc (.cells #[.int .i64 a, .int .i64 b, .int .i64 c] 27)) (w.heap.size) 27 (.int .i64 x) (.int .i64 y) (.int .i64 z) := (O3.new' _ _ _ _ _ (by simp)).alloc _
  have G : O3 ((w.alloc (.cells #[.int .i64 x, .int .i64 y, .int .i64 z] 27)).alloc (.cells #[.int .i64 a, .int .i64 b, .int .i64 c] 27)) (w.heap.size + 1) 27 (.int .i64 a) (.int .i64 b) (.int .i64 c) := O3.new' _ _ _ _ _ (by simp)
  have HB : Below w.heap.size w ((w.alloc (.cells #[.int .i64 x, .int .i64 y, .int .i64 z] 27)).alloc (.cells #[.int .i64 a, .int .i64 b, .int .i64 c] 27)) := ((Below.refl _ _).alloc (Nat.le_refl _) _).alloc (by simp) _
  go_enter Try.func6, Try.ntmps6
  go_upto_region 1 with fail
  obtain ⟨mb, hmb⟩ : ∃ b, w.heap.size = b := ⟨_, rfl⟩
  have hwm : w.heap.size ≤ mb := by omega
  rw [hmb] at P G
  try simp only [hmb]
  generalize ((w.alloc (.cells #[.int .i64 x, .int .i64 y, .int .i64 z] 27)).alloc (.cells #[.int .i64 a, .int .i64 b, .int .i64 c] 27)) = V0 at *
  clear hmb
  go_wp2_with fail
  refine (lawShown12 _).mono ?_; rintro e V1 ⟨rfl, bq⟩
  replace P := P.keep bq; replace G := G.keep bq; replace HB := btrans HB bq
  clear bq
  obtain ⟨cP0, cP1, cP2⟩ := P.cells
  obtain ⟨cG0, cG1, cG2⟩ := G.cells
  go_wp2_with fail
  refine (HN.out _).mono ?_; rintro e V2 ⟨rfl, bq⟩
  clear cP0 cP1 cP2 cG0 cG1 cG2
  replace P := P.keep bq; replace G := G.keep bq; replace HB := btrans HB bq
  clear bq
  clear HN
  go_upto_region 3 with fail
  have lG := G.lt
  replace P := P.alloc (.cells #[.int .i64 q.id, .int .i64 q.ow, .int .i64 q.kd, .int .i64 q.px, .int .i64 q.py, .int .i64 q.pz, .int .i64 q.vx, .int .i64 q.vy, .int .i64 q.vz, .int .i64 q.fu, .bool q.rs] 33)
  replace G := G.alloc (.cells #[.int .i64 q.id, .int .i64 q.ow, .int .i64 q.kd, .int .i64 q.px, .int .i64 q.py, .int .i64 q.pz, .int .i64 q.vx, .int .i64 q.vy, .int .i64 q.vz, .int .i64 q.fu, .bool q.rs] 33)
  replace HB := HB.alloc HB.size (.cells #[.int .i64 q.id, .int .i64 q.ow, .int .i64 q.kd, .int .i64 q.px, .int .i64 q.py, .int .i64 q.pz, .int .i64 q.vx, .int .i64 q.vy, .int .i64 q.vz, .int .i64 q.fu, .bool q.rs] 33)
  have S := ShAt.new V2 q
  obtain ⟨kb, hkb⟩ : ∃ b, V2.heap.size = b := ⟨_, rfl⟩
  rw [hkb] at S lG
  try simp only [hkb]
  generalize V2.alloc (.cells #[.int .i64 q.id, .int .i64 q.ow, .int .i64 q.kd, .int .i64 q.px, .int .i64 q.py, .int .i64 q.pz, .int .i64 q.vx, .int .i64 q.vy, .int .i64 q.vz, .int .i64 q.fu, .bool q.rs] 33) = V3 at *
  clear hkb
  rcases HQ.out with ⟨rfl, rfl⟩ | ⟨rfl, c1, na, nb, nc, s, f, hk, eq⟩
  · clear HQ EP
    go_wp2_with (first | (refine wpList_ldS (by rfl) _ rfl _ _ rfl (by assumption) ?_) | (refine wpList_eqS (by rfl) _ _ _ rfl (noSh) rfl rfl ?_))
    go_ret
    exact ⟨rfl, HB⟩
  · clear HQ
    obtain ⟨l0, l1, la, lb, lc⟩ := flong_near na nb nc c1 rfl
    have s0 : 0 ≤ s := by omega
    have s1 : s ≤ 1000000000 := by omega
    have Ha := hid (fun V => lawGoes a (mkv a s (flong a b c)) s (goB_mkv s0 l0 la.2 la.1) s0 s1 V)
    obtain ⟨ma, ema⟩ : ∃ n, mkv a s (flong a b c) = n := ⟨_, rfl⟩
    rw [ema] at eq Ha
    clear ema
    have Hb := hid (fun V => lawGoes b (mkv b s (flong a b c)) s (goB_mkv s0 l0 lb.2 lb.1) s0 s1 V)
    obtain ⟨mb, emb⟩ : ∃ n, mkv b s (flong a b c) = n := ⟨_, rfl⟩
    rw [emb] at eq Hb
    clear emb
    have Hc := hid (fun V => lawGoes c (mkv c s (flong a b c)) s (goB_mkv s0 l0 lc.2 lc.1) s0 s1 V)
    obtain ⟨mc, emc⟩ : ∃ n, mkv c s (flong a b c) = n := ⟨_, rfl⟩
    rw [emc] at eq Hc
    clear emc
    subst eq
    clear l0 l1 la lb lc na nb nc c1 s0 s1
    have hk2 : (k = 1 ∧ s = 16384) ∨ (¬ k = 1 ∧ s = 26214) := by omega
    clear hk
    rcases hk2 with ⟨rfl, rfl⟩ | ⟨k1, rfl⟩
    · skip
      obtain ⟨cP0, cP1, cP2⟩ := P.cells
      obtain ⟨cG0, cG1, cG2⟩ := G.cells
      obtain ⟨cS0, cS1, cS2, cS3, cS4, cS5, cS6, cS7, cS8, cS9, cS10⟩ := S.cells
      dsimp only at cS0 cS1 cS2 cS3 cS4 cS5 cS6 cS7 cS8 cS9 cS10
      go_wp2_with fail
      refine (Ha.out _).mono ?_; rintro e Wa ⟨rfl, hv⟩
      replace hv := hv.symm; subst hv
      go_wp2_with fail
      refine (Hb.out _).mono ?_; rintro e Wb ⟨rfl, hv⟩
      replace hv := hv.symm; subst hv
      go_wp2_with fail
      refine (Hc.out _).mono ?_; rintro e Wc ⟨rfl, hv⟩
      replace hv := hv.symm; subst hv
      go_wp2
      go_ret
      exact ⟨by simp, HB⟩
    · skip
      obtain ⟨cP0, cP1, cP2⟩ := P.cells
      obtain ⟨cG0, cG1, cG2⟩ := G.cells
      obtain ⟨cS0, cS1, cS2, cS3, cS4, cS5, cS6, cS7, cS8, cS9, cS10⟩ := S.cells
      dsimp only at cS0 cS1 cS2 cS3 cS4 cS5 cS6 cS7 cS8 cS9 cS10
      go_wp2_with fail
      refine (Ha.out _).mono ?_; rintro e Wa ⟨rfl, hv⟩
      replace hv := hv.symm; subst hv
      go_wp2_with fail
      refine (Hb.out _).mono ?_; rintro e Wb ⟨rfl, hv⟩
      replace hv := hv.symm; subst hv
      go_wp2_with fail
      refine (Hc.out _).mono ?_; rintro e Wc ⟨rfl, hv⟩
      replace hv := hv.symm; subst hv
      go_wp2
      go_ret
      exact ⟨by simp, HB⟩

end Go.Proofs.Ythcmcjklhcfenaa
