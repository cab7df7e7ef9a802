/- Layer 12 (shot): how long a direction is; the contract of along. -/
import Derived.Test.YthcmcjklhcfenaaShC
namespace Go.Proofs.Ythcmcjklhcfenaa
open Go.RowKit
set_option linter.unusedVariables false
set_option linter.unusedSimpArgs false
attribute [local go_sem ↓] Go.wp_at_zero Go.wp_at_succ

theorem mag_nat (a : Int) : ∃ x : Nat, mag a = x ∧ (a = x ∨ a = -(x : Int)) := ⟨a.natAbs, by unfold mag; split <;> omega, by omega⟩
theorem flong_near {a b c l : Int} (ha : -65536 ≤ a ∧ a ≤ 65536) (hb : -65536 ≤ b ∧ b ≤ 65536) (hc : -65536 ≤ c ∧ c ≤ 65536) (h0 : ¬ (a = 0 ∧ b = 0 ∧ c = 0)) (hl : flong a b c = l) :
    0 < l ∧ l ≤ 200000 ∧ (-l ≤ a ∧ a ≤ l) ∧ (-l ≤ b ∧ b ≤ l) ∧ (-l ≤ c ∧ c ≤ l) := by
  obtain ⟨x, ex, fx⟩ := mag_nat a
  obtain ⟨y, ey, fy⟩ := mag_nat b
  obtain ⟨z, ez, fz⟩ := mag_nat c
  unfold flong at hl
  rw [ex, ey, ez] at hl
  have e : ((x : Int) * x + (y : Int) * y + (z : Int) * z).toNat = x * x + y * y + z * z := by
    rw [← Int.natCast_mul, ← Int.natCast_mul, ← Int.natCast_mul, ← Int.natCast_add, ← Int.natCast_add]; exact Int.toNat_natCast _
  rw [e] at hl
  clear e
  have hx : x ≤ 65536 := by omega
  have hy : y ≤ 65536 := by omega
  have hz : z ≤ 65536 := by omega
  have qx : x * x ≤ 65536 * 65536 := Nat.mul_le_mul hx hx
  have qy : y * y ≤ 65536 * 65536 := Nat.mul_le_mul hy hy
  have qz : z * z ≤ 65536 * 65536 := Nat.mul_le_mul hz hz
  obtain ⟨s1, s2, s3⟩ := root_spec (n := x * x + y * y + z * z) (by omega)
  obtain ⟨k, hk⟩ : ∃ k, root (x * x + y * y + z * z) = k := ⟨_, rfl⟩
  rw [hk] at s1 s2 s3 hl
  have k1 : k < 200000 := sq_lt (by omega)
  have gx : x < k + 1 := sq_lt (by omega)
  have gy : y < k + 1 := sq_lt (by omega)
  have gz : z < k + 1 := sq_lt (by omega)
  rw [sat_id (i64_in (by omega) (by omega))] at hl
  clear s1 s2 s3 qx qy qz hk ex ey ez
  refine ⟨by omega, by omega, ⟨by omega, by omega⟩, ⟨by omega, by omega⟩, ⟨by omega, by omega⟩⟩
theorem mkv_facts {d s l : Int} (hd : -65536 ≤ d ∧ d ≤ 65536) (hs : s = 26214 ∨ s = 16384) (h0 : 0 < l) (hl : -l ≤ d ∧ d ≤ l) : IntKind.i64.wrap (d * s) = d * s ∧ wrap64 ((d * s).tdiv l) = mkv d s l := by
  have g := mkv_goes (d := d) (s := s) (l := l) (by omega) h0 hl.2 hl.1
  refine ⟨?_, ?_⟩
  · rcases hs with rfl | rfl
    · exact wrapI (by omega) (by omega)
    · exact wrapI (by omega) (by omega)
  · exact IntWalk.wrap64_in _ (by show -9223372036854775808 ≤ mkv d s l ∧ mkv d s l ≤ 9223372036854775807; omega)
/-- How far the axes are along. -/
inductive AlI (a b c x y z : Int) : Nat → Int → Int → Int → Prop
  | s0 : AlI a b c x y z 0 a b c
  | s1 : AlI a b c x y z 1 x b c
  | s2 : AlI a b c x y z 2 x y c
  | s3 : AlI a b c x y z 3 x y z
set_option maxRecDepth 100000 in
set_option maxHeartbeats 4000000 in
theorem shotAlong (a b c s l : Int) (ha : -65536 ≤ a ∧ a ≤ 65536) (hb : -65536 ≤ b ∧ b ≤ 65536) (hc : -65536 ≤ c ∧ c ≤ 65536) (h0 : ¬ (a = 0 ∧ b = 0 ∧ c = 0)) (hs : s = 26214 ∨ s = 16384) (hl : flong a b c = l) (w : World) :
    Calls Try.prog 22 #[.agg #[.int .i64 a, .int .i64 b, .int .i64 c], .int .i64 s] w fun e w' => e = .returned (.agg #[.int .i64 (mkv a s l), .int .i64 (mkv b s l), .int .i64 (mkv c s l)]) ∧ Below w.heap.size w w' := by
  obtain ⟨l0, l1, la, lb, lc⟩ := flong_near ha hb hc h0 hl
  have HL := hid (fun V => fixLong a b c (i64_in (by omega) (by omega)) (i64_in (by omega) (by omega)) (i64_in (by omega) (by omega)) V)
  rw [hl] at HL
  have HW := hid (And.intro (mkv_facts ha hs l0 la) (And.intro (mkv_facts hb hs l0 lb) (mkv_facts hc hs l0 lc)))
  obtain ⟨x, ex⟩ : ∃ n, mkv a s l = n := ⟨_, rfl⟩
  obtain ⟨y, ey⟩ : ∃ n, mkv b s l = n := ⟨_, rfl⟩
  obtain ⟨z, ez⟩ : ∃ n, mkv c s l = n := ⟨_, rfl⟩
  rw [ex, ey, ez]
  rw [ex, ey, ez] at HW
  have hlz : ¬ l = 0 := by omega
  clear l1 la lb lc hl h0 ha hb hc hs l0 ex ey ez
  have P : O3 ((w.alloc (.cells #[.int .i64 a, .int .i64 b, .int .i64 c] 27)).alloc (.cells #[.int .i64 0, .int .i64 0, .int .i64 0] 27)) (w.heap.size) 27 (.int .i64 a) (.int .i64 b) (.int .i64 c) := (O3.new' _ _ _ _ _ (by simp)).alloc _
  have Z : O3 ((w.alloc (.cells #[.int .i64 a, .int .i64 b, .int .i64 c] 27)).alloc (.cells #[.int .i64 0, .int .i64 0, .int .i64 0] 27)) (w.heap.size + 1) 27 (.int .i64 0) (.int .i64 0) (.int .i64 0) := O3.new' _ _ _ _ _ (by simp)
  have HB : Below w.heap.size w ((w.alloc (.cells #[.int .i64 a, .int .i64 b, .int .i64 c] 27)).alloc (.cells #[.int .i64 0, .int .i64 0, .int .i64 0] 27)) := ((Below.refl _ _).alloc (Nat.le_refl _) _).alloc (by simp) _
  go_enter Try.func22, Try.ntmps22
  go_upto_region 1 with fail
  obtain ⟨mb, hmb⟩ : ∃ b, w.heap.size = b := ⟨_, rfl⟩
  have hwm : w.heap.size ≤ mb := by omega
  rw [hmb] at P Z
  try simp only [hmb]
  generalize ((w.alloc (.cells #[.int .i64 a, .int .i64 b, .int .i64 c] 27)).alloc (.cells #[.int .i64 0, .int .i64 0, .int .i64 0] 27)) = V0 at *
  clear hmb
  obtain ⟨cP0, cP1, cP2⟩ := P.cells
  go_wp2_with fail
  refine (HL.out _).mono ?_; rintro e V1 ⟨rfl, bq⟩
  clear cP0 cP1 cP2
  replace P := P.keep bq; replace Z := Z.keep bq; replace HB := btrans HB bq
  clear bq
  clear HL
  go_wp2_with fail
  refine (shotAxes mb 0 1 2 rfl rfl _).mono ?_; rintro e V2 ⟨rfl, bq⟩
  replace P := P.keep bq; replace Z := Z.keep bq; replace HB := btrans HB bq
  clear bq
  obtain ⟨ei0, ei1, ei2⟩ := idx3p (.pointer (some ⟨mb, 0, none⟩)) (.pointer (some ⟨mb, 1, none⟩)) (.pointer (some ⟨mb, 2, none⟩))
  go_wp2
  go_loopw [11] (fun v wr => ∃ (j : Nat) (X Y Z : Int) (V : World), v = .int .i64 j ∧ wr = V ∧ AlI a b c x y z j X Y Z ∧ O3 V mb 27 (.int .i64 X) (.int .i64 Y) (.int .i64 Z) ∧ O3 V (mb + 1) 27 (.int .i64 0) (.int .i64 0) (.int .i64 0) ∧ Below w.heap.size w V) (fun v _ => 3 - (intOf v).toNat)
  case atStart => exact ⟨0, _, _, _, _, rfl, rfl, .s0, P, Z, HB⟩
  case round =>
    clear P Z HB
    obtain ⟨j, X, Y, Z, V, rfl, eV, hI, P, Z, HB⟩ := hrel
    subst eV
    cases hI with
    | s0 =>
      obtain ⟨cP0, cP1, cP2⟩ := P.cells
      obtain ⟨tP0, tP1, tP2⟩ := P.thaw
      obtain ⟨w1, w2⟩ := HW.out.1
      go_upto_region 6 with fail
      clear cP0 cP1 cP2 tP0 tP1 tP2
      clear w1
      replace w2 := hid w2
      replace P := P.set0 (.int .i64 (wrap64 ((a * s).tdiv l)))
      replace Z := Z.fr (fr1 _ mb 0 (.int .i64 (wrap64 ((a * s).tdiv l)))) (show ¬ (mb + 1 = mb) by omega)
      replace HB := below_fr HB (fr1 _ mb 0 (.int .i64 (wrap64 ((a * s).tdiv l)))) (Nat.le_refl _) (by intro k hk; replace hk : k = mb := hk; omega)
      go_wp2
      refine ⟨⟨1, _, _, _, _, rfl, rfl, .s1, ?_⟩, by simp [intOf]⟩
      rw [← w2.out]
      exact ⟨P, Z, HB⟩
    | s1 =>
      obtain ⟨cP0, cP1, cP2⟩ := P.cells
      obtain ⟨tP0, tP1, tP2⟩ := P.thaw
      obtain ⟨w1, w2⟩ := HW.out.2.1
      go_upto_region 6 with fail
      clear cP0 cP1 cP2 tP0 tP1 tP2
      clear w1
      replace w2 := hid w2
      replace P := P.set1 (.int .i64 (wrap64 ((b * s).tdiv l)))
      replace Z := Z.fr (fr1 _ mb 1 (.int .i64 (wrap64 ((b * s).tdiv l)))) (show ¬ (mb + 1 = mb) by omega)
      replace HB := below_fr HB (fr1 _ mb 1 (.int .i64 (wrap64 ((b * s).tdiv l)))) (Nat.le_refl _) (by intro k hk; replace hk : k = mb := hk; omega)
      go_wp2
      refine ⟨⟨2, _, _, _, _, rfl, rfl, .s2, ?_⟩, by simp [intOf]⟩
      rw [← w2.out]
      exact ⟨P, Z, HB⟩
    | s2 =>
      obtain ⟨cP0, cP1, cP2⟩ := P.cells
      obtain ⟨tP0, tP1, tP2⟩ := P.thaw
      obtain ⟨w1, w2⟩ := HW.out.2.2
      go_upto_region 6 with fail
      clear cP0 cP1 cP2 tP0 tP1 tP2
      clear w1
      replace w2 := hid w2
      replace P := P.set2 (.int .i64 (wrap64 ((c * s).tdiv l)))
      replace Z := Z.fr (fr1 _ mb 2 (.int .i64 (wrap64 ((c * s).tdiv l)))) (show ¬ (mb + 1 = mb) by omega)
      replace HB := below_fr HB (fr1 _ mb 2 (.int .i64 (wrap64 ((c * s).tdiv l)))) (Nat.le_refl _) (by intro k hk; replace hk : k = mb := hk; omega)
      go_wp2
      refine ⟨⟨3, _, _, _, _, rfl, rfl, .s3, ?_⟩, by simp [intOf]⟩
      rw [← w2.out]
      exact ⟨P, Z, HB⟩
    | s3 =>
      obtain ⟨cP0, cP1, cP2⟩ := P.cells
      obtain ⟨tZ0, tZ1, tZ2⟩ := Z.thaw
      obtain ⟨cZ0, cZ1, cZ2⟩ := Z.cells
      go_wp2
      clear cP0 cP1 cP2 tZ0 tZ1 tZ2 cZ0 cZ1 cZ2
      replace P := P.fr (fr3 _ (mb + 1) 0 1 2 (.int .i64 x) (.int .i64 y) (.int .i64 z)) (show ¬ (mb = mb + 1) by omega)
      replace Z := Z.set (.int .i64 x) (.int .i64 y) (.int .i64 z)
      replace HB := below_fr HB (fr3 _ (mb + 1) 0 1 2 (.int .i64 x) (.int .i64 y) (.int .i64 z)) (Nat.le_refl _) (by intro k hk; replace hk : k = mb + 1 := hk; omega)
      obtain ⟨cZ0, cZ1, cZ2⟩ := Z.cells
      refine bodyPost_ret (v := .agg #[.int .i64 x, .int .i64 y, .int .i64 z]) ?_ rfl ⟨rfl, HB⟩
      simp [results, Try.results22, go_sem, cZ0, cZ1, cZ2]

end Go.Proofs.Ythcmcjklhcfenaa
