/- Layer 12 (shot): the walk of ShotTurned. -/
import Derived.Test.YthcmcjklhcfenaaShI
import Derived.Test.YthcmcjklhcfenaaShJ
namespace Go.Proofs.Ythcmcjklhcfenaa
open Go.RowKit
set_option linter.unusedVariables false
set_option linter.unusedSimpArgs false
attribute [local go_sem ↓] Go.wp_at_zero Go.wp_at_succ

theorem wrap64_i64 (a : Int) : I64 (IntKind.i64.wrap a) := by
  have := IntKind.wrap_i64 a
  constructor <;> omega
set_option maxRecDepth 100000 in
set_option maxHeartbeats 8000000 in
theorem shotTurned_walk (k x y z a b c : Int) (w : World) (hk : I64 k) (hx : I64 x) (hy : I64 y) (hz : I64 z) (ha : I64 a) (hb : I64 b) (hc : I64 c) :
    Calls Try.prog 7 #[.int .i64 k, .agg #[.int .i64 x, .int .i64 y, .int .i64 z], .agg #[.int .i64 a, .int .i64 b, .int .i64 c]] w fun e w' => e = .returned (.bool true) ∧ Below w.heap.size w w' := by
  obtain ⟨a', ea⟩ : ∃ n, IntKind.i64.wrap (-a) = n := ⟨_, rfl⟩
  obtain ⟨b', eb⟩ : ∃ n, IntKind.i64.wrap (-b) = n := ⟨_, rfl⟩
  obtain ⟨c', ec⟩ : ∃ n, IntKind.i64.wrap (-c) = n := ⟨_, rfl⟩
  obtain ⟨q, n, hq⟩ : ∃ q n, newS 1 1 k x y z a b c = (q, n) := ⟨_, _, rfl⟩
  obtain ⟨r, m, hr⟩ : ∃ q n, newS 1 1 k x y z a' b' c' = (q, n) := ⟨_, _, rfl⟩
  have HN := hid (fun V => shotNew 1 1 k x y z a b c ha hb hc q n hq V)
  have HR := hid (fun V => shotNew 1 1 k x y z a' b' c' (ea ▸ wrap64_i64 _) (eb ▸ wrap64_i64 _) (ec ▸ wrap64_i64 _) r m hr V)
  obtain ⟨enm, e1, e2, e3, e4⟩ := newS_turn ha hb hc ea eb ec hq hr
  have E1 := hid e1; have E2 := hid e2; have E3 := hid e3; have E4 := hid e4
  subst enm
  clear hq hr hk hx hy hz ha hb hc e1 e2 e3 e4
  have P : O3 ((w.alloc (.cells #[.int .i64 x, .int .i64 y, .int .i64 z] 27)).alloc (.cells #[.int .i64 a, .int .i64 b, .int .i64 c] 27)) (w.heap.size) 27 (.int .i64 x) (.int .i64 y) (.int .i64 z) := (O3.new' _ _ _ _ _ (by simp)).alloc _
  have G : O3 ((w.alloc (.cells #[.int .i64 x, .int .i64 y, .int .i64 z] 27)).alloc (.cells #[.int .i64 a, .int .i64 b, .int .i64 c] 27)) (w.heap.size + 1) 27 (.int .i64 a) (.int .i64 b) (.int .i64 c) := O3.new' _ _ _ _ _ (by simp)
  have HB : Below w.heap.size w ((w.alloc (.cells #[.int .i64 x, .int .i64 y, .int .i64 z] 27)).alloc (.cells #[.int .i64 a, .int .i64 b, .int .i64 c] 27)) := ((Below.refl _ _).alloc (Nat.le_refl _) _).alloc (by simp) _
  go_enter Try.func7, Try.ntmps7
  go_upto_region 1 with fail
  obtain ⟨mb, hmb⟩ : ∃ b, w.heap.size = b := ⟨_, rfl⟩
  have hwm : w.heap.size ≤ mb := by omega
  rw [hmb] at P G
  try simp only [hmb]
  generalize ((w.alloc (.cells #[.int .i64 x, .int .i64 y, .int .i64 z] 27)).alloc (.cells #[.int .i64 a, .int .i64 b, .int .i64 c] 27)) = V0 at *
  clear hmb
  go_wp2_with fail
  refine (lawShown12 _).mono ?_; rintro e V1 ⟨rfl, bq⟩
  replace P := P.keep bq; replace G := G.keep bq; replace HB := btrans HB bq
  clear bq
  obtain ⟨cP0, cP1, cP2⟩ := P.cells
  obtain ⟨cG0, cG1, cG2⟩ := G.cells
  go_wp2_with fail
  refine (HN.out _).mono ?_; rintro e V2 ⟨rfl, bq⟩
  clear cP0 cP1 cP2 cG0 cG1 cG2
  replace P := P.keep bq; replace G := G.keep bq; replace HB := btrans HB bq
  clear bq
  clear HN
  go_upto_region 3 with fail
  have lG := G.lt
  replace P := P.alloc (.cells #[.int .i64 q.id, .int .i64 q.ow, .int .i64 q.kd, .int .i64 q.px, .int .i64 q.py, .int .i64 q.pz, .int .i64 q.vx, .int .i64 q.vy, .int .i64 q.vz, .int .i64 q.fu, .bool q.rs] 33)
  replace G := G.alloc (.cells #[.int .i64 q.id, .int .i64 q.ow, .int .i64 q.kd, .int .i64 q.px, .int .i64 q.py, .int .i64 q.pz, .int .i64 q.vx, .int .i64 q.vy, .int .i64 q.vz, .int .i64 q.fu, .bool q.rs] 33)
  replace HB := HB.alloc HB.size (.cells #[.int .i64 q.id, .int .i64 q.ow, .int .i64 q.kd, .int .i64 q.px, .int .i64 q.py, .int .i64 q.pz, .int .i64 q.vx, .int .i64 q.vy, .int .i64 q.vz, .int .i64 q.fu, .bool q.rs] 33)
  have S := ShAt.new V2 q
  obtain ⟨kb, hkb⟩ : ∃ b, V2.heap.size = b := ⟨_, rfl⟩
  rw [hkb] at S lG
  try simp only [hkb]
  generalize V2.alloc (.cells #[.int .i64 q.id, .int .i64 q.ow, .int .i64 q.kd, .int .i64 q.px, .int .i64 q.py, .int .i64 q.pz, .int .i64 q.vx, .int .i64 q.vy, .int .i64 q.vz, .int .i64 q.fu, .bool q.rs] 33) = V3 at *
  clear hkb
  obtain ⟨cP0, cP1, cP2⟩ := P.cells
  obtain ⟨cG0, cG1, cG2⟩ := G.cells
  go_wp2_with fail
  refine (HR.out _).mono ?_; rintro e V4 ⟨rfl, bq⟩
  clear cP0 cP1 cP2 cG0 cG1 cG2
  replace P := P.keep bq; replace G := G.keep bq; replace S := S.keep bq; replace HB := btrans HB bq
  clear bq
  clear HR
  go_upto_region 4 with fail
  have lS := S.lt
  replace P := P.alloc (.cells #[.int .i64 r.id, .int .i64 r.ow, .int .i64 r.kd, .int .i64 r.px, .int .i64 r.py, .int .i64 r.pz, .int .i64 r.vx, .int .i64 r.vy, .int .i64 r.vz, .int .i64 r.fu, .bool r.rs] 33)
  replace G := G.alloc (.cells #[.int .i64 r.id, .int .i64 r.ow, .int .i64 r.kd, .int .i64 r.px, .int .i64 r.py, .int .i64 r.pz, .int .i64 r.vx, .int .i64 r.vy, .int .i64 r.vz, .int .i64 r.fu, .bool r.rs] 33)
  replace S := S.alloc (.cells #[.int .i64 r.id, .int .i64 r.ow, .int .i64 r.kd, .int .i64 r.px, .int .i64 r.py, .int .i64 r.pz, .int .i64 r.vx, .int .i64 r.vy, .int .i64 r.vz, .int .i64 r.fu, .bool r.rs] 33)
  replace HB := HB.alloc HB.size (.cells #[.int .i64 r.id, .int .i64 r.ow, .int .i64 r.kd, .int .i64 r.px, .int .i64 r.py, .int .i64 r.pz, .int .i64 r.vx, .int .i64 r.vy, .int .i64 r.vz, .int .i64 r.fu, .bool r.rs] 33)
  have T := ShAt.new V4 r
  obtain ⟨jb, hjb⟩ : ∃ b, V4.heap.size = b := ⟨_, rfl⟩
  rw [hjb] at T lS
  try simp only [hjb]
  generalize V4.alloc (.cells #[.int .i64 r.id, .int .i64 r.ow, .int .i64 r.kd, .int .i64 r.px, .int .i64 r.py, .int .i64 r.pz, .int .i64 r.vx, .int .i64 r.vy, .int .i64 r.vz, .int .i64 r.fu, .bool r.rs] 33) = V5 at *
  clear hjb
  have E1 := E1.out; have E2 := E2.out; have E3 := E3.out; have E4 := E4.out
  obtain ⟨cS0, cS1, cS2, cS3, cS4, cS5, cS6, cS7, cS8, cS9, cS10⟩ := S.cells
  obtain ⟨cT0, cT1, cT2, cT3, cT4, cT5, cT6, cT7, cT8, cT9, cT10⟩ := T.cells
  go_wp2
  go_ret
  exact ⟨rfl, HB⟩

end Go.Proofs.Ythcmcjklhcfenaa
