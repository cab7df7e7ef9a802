/- Layer 12 (shot): the contract of flown. -/
import Derived.Test.YthcmcjklhcfenaaShA
import Derived.Test.YthcmcjklhcfenaaShL
namespace Go.Proofs.Ythcmcjklhcfenaa
open Go.RowKit
set_option linter.unusedVariables false
set_option linter.unusedSimpArgs false
attribute [local go_sem ↓] Go.wp_at_zero Go.wp_at_succ

theorem i64_in {n : Int} (h0 : -2000000000 ≤ n) (h1 : n ≤ 2000000000) : I64 n := ⟨by omega, by omega⟩
set_option maxRecDepth 100000 in
set_option maxHeartbeats 4000000 in
theorem shotFlown (W D H : Int) (mp : Option Addr) (mn mc : Nat) (mf : Nat → Bool) (sp : Option Addr) (sn sc : Nat) (s : Sh) (hs : s.In 1000000000 10000000) (d : Bool) (hd : (mpOf W D H mn mf).sol (s.px + s.vx) (s.py + s.vy) (s.pz + s.vz) = d) (q : Sh) (hq : (if d = true then s else { s with px := s.px + s.vx, py := s.py + s.vy, pz := s.pz + s.vz }) = q) (w : World) (hm : Arg w mp mn mc fun i => .bool (mf i)) :
    Calls Try.prog 24 #[.agg #[.int .i64 W, .int .i64 D, .int .i64 H, .slice mp mn mc, .slice sp sn sc], .agg #[.int .i64 s.id, .int .i64 s.ow, .int .i64 s.kd, .int .i64 s.px, .int .i64 s.py, .int .i64 s.pz, .int .i64 s.vx, .int .i64 s.vy, .int .i64 s.vz, .int .i64 s.fu, .bool s.rs]] w fun e w' => e = .returned (.tuple #[.agg #[.int .i64 q.id, .int .i64 q.ow, .int .i64 q.kd, .int .i64 q.px, .int .i64 q.py, .int .i64 q.pz, .int .i64 q.vx, .int .i64 q.vy, .int .i64 q.vz, .int .i64 q.fu, .bool q.rs], .bool d]) ∧ Below w.heap.size w w' := by
  obtain ⟨x0, x1, y0, y1, z0, z1, a0, a1, b0, b1, c0, c1, f0, f1⟩ := hs
  have ix : I64 (s.px + s.vx) := i64_in (by omega) (by omega); have iy : I64 (s.py + s.vy) := i64_in (by omega) (by omega); have iz : I64 (s.pz + s.vz) := i64_in (by omega) (by omega)
  have HS := hid (fun V (hV : Below w.heap.size w V) => shotSolid W D H mp mn mc mf sp sn sc _ _ _ ix iy iz V (hm.keep hV))
  have HPL := hid (fun V => fixVecPlus s.px s.py s.pz s.vx s.vy s.vz (i64_in (by omega) (by omega)) (i64_in (by omega) (by omega)) (i64_in (by omega) (by omega)) (i64_in (by omega) (by omega)) (i64_in (by omega) (by omega)) (i64_in (by omega) (by omega)) V)
  rw [sat_id ix, sat_id iy, sat_id iz] at HPL
  rw [hd] at HS
  obtain ⟨x, ex⟩ : ∃ n, s.px + s.vx = n := ⟨_, rfl⟩
  obtain ⟨y, ey⟩ : ∃ n, s.py + s.vy = n := ⟨_, rfl⟩
  obtain ⟨z, ez⟩ : ∃ n, s.pz + s.vz = n := ⟨_, rfl⟩
  rw [ex, ey, ez] at HPL HS hq
  clear x0 x1 y0 y1 z0 z1 a0 a1 b0 b1 c0 c1 f0 f1 ix iy iz hd ex ey ez hm
  have hq := hid hq
  have O : O5 (((w.alloc (.cells #[.int .i64 W, .int .i64 D, .int .i64 H, .slice mp mn mc, .slice sp sn sc] 25)).alloc (.cells #[.int .i64 s.id, .int .i64 s.ow, .int .i64 s.kd, .int .i64 s.px, .int .i64 s.py, .int .i64 s.pz, .int .i64 s.vx, .int .i64 s.vy, .int .i64 s.vz, .int .i64 s.fu, .bool s.rs] 33)).alloc (.cells #[.int .i64 0, .int .i64 0, .int .i64 0, .int .i64 0, .int .i64 0, .int .i64 0, .int .i64 0, .int .i64 0, .int .i64 0, .int .i64 0, .bool false] 33)) (w.heap.size) (.int .i64 W) (.int .i64 D) (.int .i64 H) (.slice mp mn mc) (.slice sp sn sc) := ((O5.new _ _ _ _ _ _).alloc _).alloc _
  have P : ShAt (((w.alloc (.cells #[.int .i64 W, .int .i64 D, .int .i64 H, .slice mp mn mc, .slice sp sn sc] 25)).alloc (.cells #[.int .i64 s.id, .int .i64 s.ow, .int .i64 s.kd, .int .i64 s.px, .int .i64 s.py, .int .i64 s.pz, .int .i64 s.vx, .int .i64 s.vy, .int .i64 s.vz, .int .i64 s.fu, .bool s.rs] 33)).alloc (.cells #[.int .i64 0, .int .i64 0, .int .i64 0, .int .i64 0, .int .i64 0, .int .i64 0, .int .i64 0, .int .i64 0, .int .i64 0, .int .i64 0, .bool false] 33)) (w.heap.size + 1) s := (ShAt.new' _ _ (by simp)).alloc _
  have Z : ShAt (((w.alloc (.cells #[.int .i64 W, .int .i64 D, .int .i64 H, .slice mp mn mc, .slice sp sn sc] 25)).alloc (.cells #[.int .i64 s.id, .int .i64 s.ow, .int .i64 s.kd, .int .i64 s.px, .int .i64 s.py, .int .i64 s.pz, .int .i64 s.vx, .int .i64 s.vy, .int .i64 s.vz, .int .i64 s.fu, .bool s.rs] 33)).alloc (.cells #[.int .i64 0, .int .i64 0, .int .i64 0, .int .i64 0, .int .i64 0, .int .i64 0, .int .i64 0, .int .i64 0, .int .i64 0, .int .i64 0, .bool false] 33)) (w.heap.size + 1 + 1) noSh := ShAt.new' _ noSh (by simp)
  have HB : Below w.heap.size w (((w.alloc (.cells #[.int .i64 W, .int .i64 D, .int .i64 H, .slice mp mn mc, .slice sp sn sc] 25)).alloc (.cells #[.int .i64 s.id, .int .i64 s.ow, .int .i64 s.kd, .int .i64 s.px, .int .i64 s.py, .int .i64 s.pz, .int .i64 s.vx, .int .i64 s.vy, .int .i64 s.vz, .int .i64 s.fu, .bool s.rs] 33)).alloc (.cells #[.int .i64 0, .int .i64 0, .int .i64 0, .int .i64 0, .int .i64 0, .int .i64 0, .int .i64 0, .int .i64 0, .int .i64 0, .int .i64 0, .bool false] 33)) := (((Below.refl _ _).alloc (Nat.le_refl _) _).alloc (by simp) _).alloc (by simp; omega) _
  go_enter Try.func24, Try.ntmps24
  go_upto_region 1 with fail
  obtain ⟨mb, hmb⟩ : ∃ b, w.heap.size = b := ⟨_, rfl⟩
  have hwm : w.heap.size ≤ mb := by omega
  rw [hmb] at O P Z
  try simp only [hmb]
  generalize (((w.alloc (.cells #[.int .i64 W, .int .i64 D, .int .i64 H, .slice mp mn mc, .slice sp sn sc] 25)).alloc (.cells #[.int .i64 s.id, .int .i64 s.ow, .int .i64 s.kd, .int .i64 s.px, .int .i64 s.py, .int .i64 s.pz, .int .i64 s.vx, .int .i64 s.vy, .int .i64 s.vz, .int .i64 s.fu, .bool s.rs] 33)).alloc (.cells #[.int .i64 0, .int .i64 0, .int .i64 0, .int .i64 0, .int .i64 0, .int .i64 0, .int .i64 0, .int .i64 0, .int .i64 0, .int .i64 0, .bool false] 33)) = V0 at *
  clear hmb
  obtain ⟨cP0, cP1, cP2, cP3, cP4, cP5, cP6, cP7, cP8, cP9, cP10⟩ := P.cells
  go_wp2_with fail
  refine (HPL.out _).mono ?_; rintro e V1 ⟨rfl, bq⟩
  clear cP0 cP1 cP2 cP3 cP4 cP5 cP6 cP7 cP8 cP9 cP10
  replace O := O.keep bq; replace P := P.keep bq; replace Z := Z.keep bq; replace HB := btrans HB bq
  clear bq
  go_upto_region 2 with fail
  have lZ := Z.lt
  replace O := O.alloc (.cells #[.int .i64 x, .int .i64 y, .int .i64 z] 27)
  replace P := P.alloc (.cells #[.int .i64 x, .int .i64 y, .int .i64 z] 27)
  replace Z := Z.alloc (.cells #[.int .i64 x, .int .i64 y, .int .i64 z] 27)
  replace HB := HB.alloc HB.size (.cells #[.int .i64 x, .int .i64 y, .int .i64 z] 27)
  have T := O3.new V1 27 (.int .i64 x) (.int .i64 y) (.int .i64 z)
  obtain ⟨tb, htb⟩ : ∃ b, V1.heap.size = b := ⟨_, rfl⟩
  rw [htb] at T lZ
  try simp only [htb]
  generalize V1.alloc (.cells #[.int .i64 x, .int .i64 y, .int .i64 z] 27) = V2 at *
  clear htb
  obtain ⟨cO0, cO1, cO2, cO3, cO4⟩ := O.cells
  obtain ⟨cT0, cT1, cT2⟩ := T.cells
  go_wp2_with fail
  refine (HS.out _ HB).mono ?_; rintro e V3 ⟨rfl, bq⟩
  clear cO0 cO1 cO2 cO3 cO4 cT0 cT1 cT2
  replace O := O.keep bq; replace P := P.keep bq; replace Z := Z.keep bq; replace T := T.keep bq; replace HB := btrans HB bq
  clear bq
  clear HS HPL
  cases d with
  | true =>
    obtain rfl : s = q := hq.out
    go_wp2_with (first | (refine wpList_ldS (by rfl) _ rfl _ _ rfl (by assumption) ?_) | (refine wpList_stS (by rfl) _ _ rfl _ _ (s) rfl rfl (by assumption) (fun V9 hN hF => ?_)))
    replace O := O.fr hF (show ¬ (mb = mb + 1 + 1) by omega)
    replace P := P.fr hF (show ¬ (mb + 1 = mb + 1 + 1) by omega)
    replace Z := hN
    replace T := T.fr hF (show ¬ (tb = mb + 1 + 1) by omega)
    replace HB := below_fr HB hF (Nat.le_refl _) (by intro k hk; replace hk : k = mb + 1 + 1 := hk; omega)
    clear hN hF
    obtain ⟨cZ0, cZ1, cZ2, cZ3, cZ4, cZ5, cZ6, cZ7, cZ8, cZ9, cZ10⟩ := Z.cells
    refine bodyPost_ret (v := .tuple #[.agg #[.int .i64 s.id, .int .i64 s.ow, .int .i64 s.kd, .int .i64 s.px, .int .i64 s.py, .int .i64 s.pz, .int .i64 s.vx, .int .i64 s.vy, .int .i64 s.vz, .int .i64 s.fu, .bool s.rs], .bool true]) ?_ rfl ⟨rfl, HB⟩
    simp [results, Try.results24, go_sem, cZ0, cZ1, cZ2, cZ3, cZ4, cZ5, cZ6, cZ7, cZ8, cZ9, cZ10]
  | false =>
    replace hq : { s with px := x, py := y, pz := z } = q := hq.out
    obtain ⟨cT0, cT1, cT2⟩ := T.cells
    obtain ⟨cP0, cP1, cP2, cP3, cP4, cP5, cP6, cP7, cP8, cP9, cP10⟩ := P.cells
    obtain ⟨tP0, tP1, tP2, tP3, tP4, tP5, tP6, tP7, tP8, tP9, tP10⟩ := P.thaw
    go_upto_region 5 with fail
    clear cT0 cT1 cT2 cP0 cP1 cP2 cP3 cP4 cP5 cP6 cP7 cP8 cP9 cP10 tP0 tP1 tP2 tP3 tP4 tP5 tP6 tP7 tP8 tP9 tP10
    replace O := O.fr (fr3 _ (mb + 1) 3 4 5 (.int .i64 x) (.int .i64 y) (.int .i64 z)) (show ¬ (mb = mb + 1) by omega)
    replace P := P.pos x y z
    replace Z := Z.fr (fr3 _ (mb + 1) 3 4 5 (.int .i64 x) (.int .i64 y) (.int .i64 z)) (show ¬ (mb + 1 + 1 = mb + 1) by omega)
    replace T := T.fr (fr3 _ (mb + 1) 3 4 5 (.int .i64 x) (.int .i64 y) (.int .i64 z)) (show ¬ (tb = mb + 1) by omega)
    replace HB := below_fr HB (fr3 _ (mb + 1) 3 4 5 (.int .i64 x) (.int .i64 y) (.int .i64 z)) (Nat.le_refl _) (by intro k hk; replace hk : k = mb + 1 := hk; omega)
    rw [hq] at P
    generalize ((V3.setCell ⟨mb + 1, 3, none⟩ (.int .i64 x)).setCell ⟨mb + 1, 4, none⟩ (.int .i64 y)).setCell ⟨mb + 1, 5, none⟩ (.int .i64 z) = V4 at *
    go_wp2_with (first | (refine wpList_ldS (by rfl) _ rfl _ _ rfl (by assumption) ?_) | (refine wpList_stS (by rfl) _ _ rfl _ _ (q) rfl rfl (by assumption) (fun V9 hN hF => ?_)))
    replace O := O.fr hF (show ¬ (mb = mb + 1 + 1) by omega)
    replace P := P.fr hF (show ¬ (mb + 1 = mb + 1 + 1) by omega)
    replace Z := hN
    replace T := T.fr hF (show ¬ (tb = mb + 1 + 1) by omega)
    replace HB := below_fr HB hF (Nat.le_refl _) (by intro k hk; replace hk : k = mb + 1 + 1 := hk; omega)
    clear hN hF
    obtain ⟨cZ0, cZ1, cZ2, cZ3, cZ4, cZ5, cZ6, cZ7, cZ8, cZ9, cZ10⟩ := Z.cells
    refine bodyPost_ret (v := .tuple #[.agg #[.int .i64 q.id, .int .i64 q.ow, .int .i64 q.kd, .int .i64 q.px, .int .i64 q.py, .int .i64 q.pz, .int .i64 q.vx, .int .i64 q.vy, .int .i64 q.vz, .int .i64 q.fu, .bool q.rs], .bool false]) ?_ rfl ⟨rfl, HB⟩
    simp [results, Try.results24, go_sem, cZ0, cZ1, cZ2, cZ3, cZ4, cZ5, cZ6, cZ7, cZ8, cZ9, cZ10]
end Go.Proofs.Ythcmcjklhcfenaa
