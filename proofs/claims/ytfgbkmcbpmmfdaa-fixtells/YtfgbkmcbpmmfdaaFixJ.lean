/- Layer 1 (fix): math/bits.Len64, LeadingZeros64, Div64: the library's own text, walked. -/
import Derived.Test.YtfgbkmcbpmmfdaaRows
import Derived.Test.YtfgbkmcbpmmfdaaPlain
import Derived.Test.YtfgbkmcbpmmfdaaDivPlain
import Derived.WalkKit
import Derived.WalkSpells
import Derived.WalkLawsBesides
import Derived.Deep.DeepCutAuto
import Derived.Deep.CutBlock
namespace Go.Proofs.Ytfgbkmcbpmmfdaa
open Go.RowKit
set_option linter.unusedVariables false

/-- How many bits a byte takes, for each byte. -/
def bits8 : ByteArray := ⟨((List.range 256).map fun i => UInt8.ofNat (if i = 0 then 0 else Nat.log2 i + 1)).toArray⟩
def TabOk (T : ByteArray) : Prop := ∀ i : Fin 256, 0 < i.val → ∃ h : i.val < T.size, 1 ≤ T[i.val].toNat ∧ T[i.val].toNat ≤ 8 ∧ 2 ^ (T[i.val].toNat - 1) ≤ i.val ∧ i.val < 2 ^ T[i.val].toNat
theorem bits8_all : ∀ i : Fin 256, 0 < i.val → ∃ h : i.val < bits8.size, 1 ≤ bits8[i.val].toNat ∧ bits8[i.val].toNat ≤ 8 ∧ 2 ^ (bits8[i.val].toNat - 1) ≤ i.val ∧ i.val < 2 ^ bits8[i.val].toNat := by decide +kernel
theorem tab_ok {T : ByteArray} (h : T = bits8) : TabOk T := by rw [h]; exact bits8_all
theorem pow_lift {l k : Nat} {x y : Int} (hl : 1 ≤ l) (h1 : (2 : Int) ^ (l - 1) ≤ x) (h2 : x < 2 ^ l) (h3 : x * 2 ^ k ≤ y) (h4 : y < (x + 1) * 2 ^ k) : (2 : Int) ^ (k + l - 1) ≤ y ∧ y < 2 ^ (k + l) := by
  have p : (0 : Int) < 2 ^ k := Int.pow_pos (by decide)
  have e1 : (2 : Int) ^ (k + l - 1) = 2 ^ (l - 1) * 2 ^ k := by rw [← Int.pow_add]; congr 1; omega
  have e2 : (2 : Int) ^ (k + l) = 2 ^ l * 2 ^ k := by rw [← Int.pow_add, Nat.add_comm]
  rw [e1, e2]
  have a := Int.mul_le_mul_of_nonneg_right h1 (Int.le_of_lt p)
  have b := Int.mul_le_mul_of_nonneg_right (show x + 1 ≤ 2 ^ l by omega) (Int.le_of_lt p)
  omega
theorem wrap_len {k l : Nat} (hk : k ≤ 56) (hl : l ≤ 8) : wrap64 ((k : Int) + wrap64 (l : Int)) = ((k + l : Nat) : Int) ∧ k + l ≤ 64 := by unfold wrap64; omega
theorem nat_pow_int {l m : Nat} : (2 ^ l ≤ m → (2 : Int) ^ l ≤ (m : Int)) ∧ (m < 2 ^ l → (m : Int) < (2 : Int) ^ l) :=
  ⟨fun h => by exact_mod_cast h, fun h => by exact_mod_cast h⟩
/-- One way through Len64: k bits were dropped, x is left. -/
theorem len_way {T : ByteArray} (hT : TabOk T) {x y : Int} (k : Nat) (p : x.toNat < T.size) (hx0 : 0 < x) (hx : x < 256) (hk : k ≤ 56) (h3 : Hid (x * 2 ^ k ≤ y ∧ y < (x + 1) * 2 ^ k)) (V : Int) (hV : V = wrap64 (k + wrap64 ((T[x.toNat]'p).toNat : Int))) :
    ∃ L : Nat, Ending.returned (.int .i64 V) = .returned (.int .i64 (L : Int)) ∧ 1 ≤ L ∧ L ≤ 64 ∧ (2 : Int) ^ (L - 1) ≤ y ∧ y < 2 ^ L := by
  obtain ⟨m, rfl⟩ := Int.eq_ofNat_of_zero_le (Int.le_of_lt hx0)
  have hm0 : 0 < m := by omega
  have hm : m < 256 := by omega
  obtain ⟨_, b1, b2, b3, b4⟩ := hT ⟨m, hm⟩ hm0
  simp only [Int.toNat_natCast] at hV
  dsimp only at b1 b2 b3 b4
  generalize T[m].toNat = l at *
  obtain ⟨d1, d2⟩ := pow_lift b1 (nat_pow_int.1 b3) (nat_pow_int.2 b4) h3.out.1 h3.out.2
  obtain ⟨e1, e2⟩ := wrap_len hk b2
  exact ⟨k + l, ret_int (hV.trans e1), Nat.le_trans b1 (Nat.le_add_left _ _), e2, d1, d2⟩

set_option maxRecDepth 1000000 in
set_option maxHeartbeats 4000000 in
theorem len64 (y : Int) (h0 : 0 < y) (h1 : y < 18446744073709551616) (w : World) :
    Calls Try.prog 75 #[.int .u64 y] w fun e w' => (∃ L : Nat, e = .returned (.int .i64 L) ∧ 1 ≤ L ∧ L ≤ 64 ∧ (2 : Int) ^ (L - 1) ≤ y ∧ y < 2 ^ L) ∧ w' = w := by
  go_enter Try.func75, Try.ntmps75
  go_wp2
  all_goals go_ret
  · exact ⟨len_way (tab_ok (by kernel_rfl)) (x := y / 4294967296 / 65536 / 256) 56 _ (by omega) (by omega) (by omega) ⟨by omega, by omega⟩ _ rfl, rfl⟩
  · exact ⟨len_way (tab_ok (by kernel_rfl)) (x := y / 4294967296 / 65536) 48 _ (by omega) (by omega) (by omega) ⟨by omega, by omega⟩ _ rfl, rfl⟩
  · exact ⟨len_way (tab_ok (by kernel_rfl)) (x := y / 4294967296 / 256) 40 _ (by omega) (by omega) (by omega) ⟨by omega, by omega⟩ _ rfl, rfl⟩
  · exact ⟨len_way (tab_ok (by kernel_rfl)) (x := y / 4294967296) 32 _ (by omega) (by omega) (by omega) ⟨by omega, by omega⟩ _ rfl, rfl⟩
  · exact ⟨len_way (tab_ok (by kernel_rfl)) (x := y / 65536 / 256) 24 _ (by omega) (by omega) (by omega) ⟨by omega, by omega⟩ _ rfl, rfl⟩
  · exact ⟨len_way (tab_ok (by kernel_rfl)) (x := y / 65536) 16 _ (by omega) (by omega) (by omega) ⟨by omega, by omega⟩ _ rfl, rfl⟩
  · exact ⟨len_way (tab_ok (by kernel_rfl)) (x := y / 256) 8 _ (by omega) (by omega) (by omega) ⟨by omega, by omega⟩ _ rfl, rfl⟩
  · exact ⟨len_way (tab_ok (by kernel_rfl)) (x := y) 0 _ (by omega) (by omega) (by omega) ⟨by omega, by omega⟩ _ (congrArg wrap64 (Int.zero_add _).symm), rfl⟩

theorem lead64 (y : Int) (h0 : 0 < y) (h1 : y < 18446744073709551616) (w : World) :
    Calls Try.prog 70 #[.int .u64 y] w fun e w' => (∃ s : Nat, e = .returned (.int .i64 s) ∧ s ≤ 63 ∧ 9223372036854775808 ≤ y * 2 ^ s ∧ y * 2 ^ s < 18446744073709551616) ∧ w' = w := by
  go_enter Try.func70, Try.ntmps70
  go_wp2_with fail
  refine (len64 y h0 h1 _).mono ?_
  rintro e w' ⟨⟨L, rfl, l1, l2, l3, l4⟩, rfl⟩
  have hs : 9223372036854775808 ≤ y * 2 ^ (64 - L) ∧ y * 2 ^ (64 - L) < 18446744073709551616 := by
    have p : (0 : Int) < 2 ^ (64 - L) := Int.pow_pos (by decide)
    have e1 : (2 : Int) ^ (L - 1) * 2 ^ (64 - L) = 9223372036854775808 := by
      rw [← Int.pow_add, show L - 1 + (64 - L) = 63 from by omega]; rfl
    have e2 : (2 : Int) ^ L * 2 ^ (64 - L) = 18446744073709551616 := by
      rw [← Int.pow_add, show L + (64 - L) = 64 from by omega]; rfl
    have a := Int.mul_le_mul_of_nonneg_right l3 (Int.le_of_lt p)
    have b := Int.mul_lt_mul_of_pos_right l4 p
    rw [e1] at a; rw [e2] at b
    exact ⟨a, b⟩
  have HS : Hid _ := hs
  clear hs l3 l4
  go_wp2
  go_ret
  exact ⟨⟨64 - L, ret_int (by omega), by omega, HS.out.1, HS.out.2⟩, rfl⟩

theorem maskI (a : Nat) (ha : a < 18446744073709551616) : bits BinOp.and IntKind.u64 (a : Int) 4294967295 = ((a % 4294967296 : Nat) : Int) := by
  have h := bits_and_u64_nat a 4294967295 ha (by omega)
  have e : a &&& 4294967295 = a % 4294967296 := Nat.and_two_pow_sub_one_eq_mod a 32
  rw [e] at h
  exact h
theorem wrapI (a : Nat) : IntKind.u64.wrap (a : Int) = ((a % 18446744073709551616 : Nat) : Int) := by rw [IntKind.wrap_u64]; omega
/-- The walk's own words for them. -/
theorem shifted_words {hi lo y : Int} {s : Nat} (h0 : 0 < hi) (h1 : hi < y) (l0 : 0 ≤ lo) (l1 : lo < 18446744073709551616) (hs : s ≤ 63) (hY1 : 9223372036854775808 ≤ y * 2 ^ s) (hY2 : y * 2 ^ s < 18446744073709551616) :
    ∃ Y Y1 Y0 U V V1 V0 : Int, IntKind.u64.wrap (y * 2 ^ s) = Y ∧ Y / 4294967296 = Y1 ∧ bits BinOp.and IntKind.u64 Y 4294967295 = Y0 ∧ bits BinOp.or IntKind.u64 (IntKind.u64.wrap (hi * 2 ^ s)) (lo / 2 ^ (64 - s)) = U ∧
      IntKind.u64.wrap (lo * 2 ^ s) = V ∧ V / 4294967296 = V1 ∧ bits BinOp.and IntKind.u64 V 4294967295 = V0 ∧
      Y = Y1 * 4294967296 + Y0 ∧ 2147483648 ≤ Y1 ∧ Y1 < 4294967296 ∧ 0 ≤ Y0 ∧ Y0 < 4294967296 ∧ 0 ≤ U ∧ U < Y ∧ 0 ≤ V1 ∧ V1 < 4294967296 ∧ 0 ≤ V0 ∧ V0 < 4294967296 ∧
      (hi * 18446744073709551616 + lo) / y = ((U * 4294967296 + V1) * 4294967296 + V0) / Y := by
  obtain ⟨hi, rfl⟩ := Int.eq_ofNat_of_zero_le (Int.le_of_lt h0)
  obtain ⟨lo, rfl⟩ := Int.eq_ofNat_of_zero_le l0
  obtain ⟨y, rfl⟩ := Int.eq_ofNat_of_zero_le (show 0 ≤ y by omega)
  have p2 : ((2 : Int) ^ s) = ((2 ^ s : Nat) : Int) := by simp
  have p3 : ((2 : Int) ^ (64 - s)) = ((2 ^ (64 - s) : Nat) : Int) := by simp
  have cm : ∀ a b : Nat, (a : Int) * (b : Int) = ((a * b : Nat) : Int) := fun a b => (Int.natCast_mul a b).symm
  rw [p2, cm] at hY1 hY2
  have hpos : 0 < 2 ^ s := Nat.two_pow_pos s
  obtain ⟨U, V, e1, e2, e3, e4, e5, e6, e7⟩ := shifted (hi := hi) (lo := lo) (y := y) hs (by omega) (by omega) (by omega) (by omega)
  rw [p2, p3, cm, cm, cm, wrapI, wrapI, wrapI, ← Int.natCast_ediv, Nat.mod_eq_of_lt (show y * 2 ^ s < 18446744073709551616 by omega), Nat.mod_eq_of_lt e4, e2, bits_or_u64_nat _ _ e4 e5, e1]
  have hdiv : ((hi : Int) * 18446744073709551616 + lo) / y = ((U * 18446744073709551616 + V : Nat) : Int) / ((y * 2 ^ s : Nat) : Int) := by
    rw [← e6]
    have : ((hi : Int) * 18446744073709551616 + lo) = ((hi * 18446744073709551616 + lo : Nat) : Int) := by omega
    rw [this, ← Int.natCast_ediv, ← Int.natCast_ediv, Nat.mul_div_mul_right _ _ hpos]
  generalize y * 2 ^ s = Y at *
  refine ⟨(Y : Int), ((Y / 4294967296 : Nat) : Int), ((Y % 4294967296 : Nat) : Int), (U : Int), (V : Int), ((V / 4294967296 : Nat) : Int), ((V % 4294967296 : Nat) : Int), rfl, by omega, maskI Y (by omega), rfl, rfl, by omega, maskI V e7, by omega, by omega, by omega, by omega, by omega, by omega, by omega, by omega, by omega, by omega, by omega, ?_⟩
  rw [hdiv, show ((U * 18446744073709551616 + V : Nat) : Int) = ((U : Int) * 4294967296 + ((V / 4294967296 : Nat) : Int)) * 4294967296 + ((V % 4294967296 : Nat) : Int) from by omega]

theorem ret_two2 {a b c : Int} (h : a = c) : Ending.returned (.tuple #[.int .u64 a, .int .u64 b]) = .returned (.tuple #[.int .u64 c, .int .u64 b]) := by rw [h]
set_option maxRecDepth 100000 in
set_option maxHeartbeats 4000000 in
theorem div64_big (hi lo y : Int) (h0 : 0 < hi) (h1 : hi < y) (h2 : y < 18446744073709551616) (l0 : 0 ≤ lo) (l1 : lo < 18446744073709551616) (w : World) :
    Calls Try.prog 51 #[.int .u64 hi, .int .u64 lo, .int .u64 y] w fun e w' => (∃ r : Int, e = .returned (.tuple #[.int .u64 ((hi * 18446744073709551616 + lo) / y), .int .u64 r])) ∧ w' = w := by
  have y0 : (y == 0) = false := beq_eq_false_iff_ne.2 (by omega)
  have y1 : ¬ y ≤ hi := by omega
  have y2 : (hi == 0) = false := beq_eq_false_iff_ne.2 (by omega)
  go_enter Try.func51, Try.ntmps51
  go_wp2_with fail
  refine (lead64 y (by omega) h2 _).mono ?_
  rintro e w' ⟨⟨s, rfl, s1, s2, s3⟩, rfl⟩
  obtain ⟨Y, Y1, Y0, U, V, V1, V0, k1, k2, k3, k4, k5, k6, k7, hY, a1, a2, a3, a4, u0, u1, v1, v2, v3, v4, hD⟩ := shifted_words h0 h1 l0 l1 s1 s2 s3
  have HD : Hid _ := hD
  have HY : Hid _ := hY
  clear hD s2 s3 hY
  have Y2 : ¬ Y1 = 0 := by omega
  obtain ⟨G0, G0'⟩ := Guess.start a1 a2 a3 a4 u0 (by rw [← HY.out]; exact u1) v1 v2
  have hq0 := G0.qlo; have hq1 := G0.qhi; have hr0 := G0.rlo
  have hm0 : 0 ≤ U / Y1 * Y1 := Int.mul_nonneg hq0 (by omega)
  have hm1 : U / Y1 * Y1 ≤ U := by omega
  go_upto_block 0 with fail
  go_cut [15, 16] (fun q r W => (∃ Q : Int, q = .int .u64 Q ∧ Q = (U * 4294967296 + V1) / Y ∧ U * 4294967296 + V1 - Q * Y = (U * 4294967296 + V1) % Y ∧ 0 ≤ Q ∧ Q < 4294967296) ∧ W = w')
  case first =>
    go_wp2_with fail
    go_loop [15, 16] (fun q r => ∃ a b : Int, q = .int .u64 a ∧ r = .int .u64 b ∧ Guess Y1 Y0 U V1 a b ∧ b < 4294967296) (fun q _ => (intOf q).toNat)
    case atStart => exact ⟨_, _, rfl, rfl, G0, by omega⟩
    case round =>
      obtain ⟨a, b, rfl, rfl, G, hb⟩ := hrel
      have q0 := G.qlo; have q1 := G.qhi; have r0 := G.rlo
      by_cases c1 : 4294967296 ≤ a
      · obtain ⟨G', g1, g2⟩ := G.next (.inl c1)
        by_cases c3 : 4294967296 ≤ b + Y1
        · obtain ⟨d1, d2, d3⟩ := G'.done (G'.broke g2 c3)
          rw [← HY.out] at d1 d2
          have D1 : Hid _ := d1; have D2 : Hid _ := d2
          clear d1 d2
          go_wp2
          go_meet
          case rel => exact ⟨⟨a - 1, rfl, D1.out, D2.out, by omega, d3⟩, rfl⟩
        · go_wp2
          go_round
          case rel => exact ⟨a - 1, b + Y1, rfl, rfl, G', by omega⟩
          case measure => simp [intOf]; omega
      · have m0 : 0 ≤ a * Y0 := Int.mul_nonneg q0 a3
        have m1 : a * Y0 ≤ 4294967295 * 4294967295 := Int.mul_le_mul (by omega) (by omega) a3 (by omega)
        have m1 : a * Y0 < 18446744073709551616 := by omega
        by_cases c2 : 4294967296 * b + V1 < a * Y0
        · obtain ⟨G', g1, g2⟩ := G.next (.inr (by omega))
          by_cases c3 : 4294967296 ≤ b + Y1
          · obtain ⟨d1, d2, d3⟩ := G'.done (G'.broke g2 c3)
            rw [← HY.out] at d1 d2
            have D1 : Hid _ := d1; have D2 : Hid _ := d2
            clear d1 d2
            go_wp2
            go_meet
            case rel => exact ⟨⟨a - 1, rfl, D1.out, D2.out, by omega, d3⟩, rfl⟩
          · go_wp2
            go_round
            case rel => exact ⟨a - 1, b + Y1, rfl, rfl, G', by omega⟩
            case measure => simp [intOf]; omega
        · obtain ⟨d1, d2, d3⟩ := G.done (by omega)
          rw [← HY.out] at d1 d2
          have D1 : Hid _ := d1; have D2 : Hid _ := d2
          clear d1 d2
          go_wp2
          go_meet
          case rel => exact ⟨⟨a, rfl, D1.out, D2.out, q0, d3⟩, rfl⟩
  case rest =>
    obtain ⟨⟨Q1, rfl, E1, E2, f1, f2⟩, rfl⟩ := hcut
    have HE1 : Hid _ := E1
    have hYp : 0 < Y := by omega
    have R0 : 0 ≤ (U * 4294967296 + V1) % Y := Int.emod_nonneg _ (by omega)
    have R1 : (U * 4294967296 + V1) % Y < Y := Int.emod_lt_of_pos _ hYp
    have HQ : Hid (Q1 = (U * 4294967296 + V1) / Y) := E1
    obtain ⟨R, hR⟩ : ∃ R, (U * 4294967296 + V1) % Y = R := ⟨_, rfl⟩
    rw [hR] at E2 R0 R1
    have HR : Hid ((U * 4294967296 + V1) % Y = R) := hR
    have hw : IntKind.u64.wrap (IntKind.u64.wrap (IntKind.u64.wrap (U * 4294967296) + V1) - IntKind.u64.wrap (Q1 * Y)) = R := by
      rw [IntKind.wrap_u64, IntKind.wrap_u64, IntKind.wrap_u64, IntKind.wrap_u64]; omega
    have HYp : Hid (0 < Y) := hYp
    clear E1 E2 hR HE1 G0 G0' hq0 hq1 hr0 hm0 hm1 hYp
    obtain ⟨G0, G0'⟩ := Guess.start a1 a2 a3 a4 R0 (by rw [← HY.out]; exact R1) v3 v4
    have hq0 := G0.qlo; have hq1 := G0.qhi; have hr0 := G0.rlo
    have hm0 : 0 ≤ R / Y1 * Y1 := Int.mul_nonneg hq0 (by omega)
    have hm1 : R / Y1 * Y1 ≤ R := by omega
    go_upto_block 2 with fail
    go_cut [18, 16] (fun q r W => (∃ Q : Int, q = .int .u64 Q ∧ Q = (R * 4294967296 + V0) / Y ∧ R * 4294967296 + V0 - Q * Y = (R * 4294967296 + V0) % Y ∧ 0 ≤ Q ∧ Q < 4294967296) ∧ W = wc)
    case first =>
      go_wp2_with fail
      go_loop [18, 16] (fun q r => ∃ a b : Int, q = .int .u64 a ∧ r = .int .u64 b ∧ Guess Y1 Y0 R V0 a b ∧ b < 4294967296) (fun q _ => (intOf q).toNat)
      case atStart => exact ⟨_, _, rfl, rfl, G0, by omega⟩
      case round =>
        obtain ⟨a, b, rfl, rfl, G, hb⟩ := hrel
        have q0 := G.qlo; have q1 := G.qhi; have r0 := G.rlo
        by_cases c1 : 4294967296 ≤ a
        · obtain ⟨G', g1, g2⟩ := G.next (.inl c1)
          by_cases c3 : 4294967296 ≤ b + Y1
          · obtain ⟨d1, d2, d3⟩ := G'.done (G'.broke g2 c3)
            rw [← HY.out] at d1 d2
            have D1 : Hid _ := d1; have D2 : Hid _ := d2
            clear d1 d2
            go_wp2
            go_meet
            case rel => exact ⟨⟨a - 1, rfl, D1.out, D2.out, by omega, d3⟩, rfl⟩
          · go_wp2
            go_round
            case rel => exact ⟨a - 1, b + Y1, rfl, rfl, G', by omega⟩
            case measure => simp [intOf]; omega
        · have m0 : 0 ≤ a * Y0 := Int.mul_nonneg q0 a3
          have m1 : a * Y0 ≤ 4294967295 * 4294967295 := Int.mul_le_mul (by omega) (by omega) a3 (by omega)
          have m1 : a * Y0 < 18446744073709551616 := by omega
          by_cases c2 : 4294967296 * b + V0 < a * Y0
          · obtain ⟨G', g1, g2⟩ := G.next (.inr (by omega))
            by_cases c3 : 4294967296 ≤ b + Y1
            · obtain ⟨d1, d2, d3⟩ := G'.done (G'.broke g2 c3)
              rw [← HY.out] at d1 d2
              have D1 : Hid _ := d1; have D2 : Hid _ := d2
              clear d1 d2
              go_wp2
              go_meet
              case rel => exact ⟨⟨a - 1, rfl, D1.out, D2.out, by omega, d3⟩, rfl⟩
            · go_wp2
              go_round
              case rel => exact ⟨a - 1, b + Y1, rfl, rfl, G', by omega⟩
              case measure => simp [intOf]; omega
          · obtain ⟨d1, d2, d3⟩ := G.done (by omega)
            rw [← HY.out] at d1 d2
            have D1 : Hid _ := d1; have D2 : Hid _ := d2
            clear d1 d2
            go_wp2
            go_meet
            case rel => exact ⟨⟨a, rfl, D1.out, D2.out, q0, d3⟩, rfl⟩
    case rest =>
      obtain ⟨⟨Q0, rfl, E1, E2, f3, f4⟩, rfl⟩ := hcut
      have HE1 : Hid (Q0 = (R * 4294967296 + V0) / Y) := E1
      clear E1 E2
      go_wp2
      go_ret2
      refine ⟨⟨_, ret_two2 ?_⟩, rfl⟩
      rw [HD.out]
      exact two_digits HYp.out rfl HQ.out (by rw [HR.out]; exact HE1.out)

set_option maxHeartbeats 1000000 in
theorem div64_small (lo y : Int) (h1 : 0 < y) (h2 : y < 18446744073709551616) (l0 : 0 ≤ lo) (l1 : lo < 18446744073709551616) (w : World) :
    Calls Try.prog 51 #[.int .u64 0, .int .u64 lo, .int .u64 y] w fun e w' => (∃ r : Int, e = .returned (.tuple #[.int .u64 (lo / y), .int .u64 r])) ∧ (w' = w ∨ w' = w.drew) := by
  have y0 : (y == 0) = false := beq_eq_false_iff_ne.2 (by omega)
  have y1 : ¬ y ≤ 0 := by omega
  have y2 : ¬ y = 0 := by omega
  go_enter Try.func51, Try.ntmps51
  go_wp2
  go_region
  all_goals (go_wp2; go_ret2; exact ⟨⟨_, rfl⟩, .inr rfl⟩)
end Go.Proofs.Ytfgbkmcbpmmfdaa
