/- Layer 1 (fix): what each function of numbers does: the contracts of Add, Sub, Neg, size, apart, end, number, math/bits.Mul64, product, whole, greater, plus, minus, Mul. -/
import Derived.Test.YtfgbkmcbpmmfdaaRows
import Derived.Test.YtfgbkmcbpmmfdaaPlain
import Derived.WalkKit
import Derived.WalkSpells
import Derived.WalkLawsBesides
import Derived.Shelf.Spec.BitsCarry
namespace Go.Proofs.Ytfgbkmcbpmmfdaa
open Go.RowKit
set_option linter.unusedVariables false

theorem sat_add {a b : Int} (ha : I64 a) (hb : I64 b) :
    (0 < b → wrap64 (a + b) < a → 9223372036854775807 = sat (a + b)) ∧ (0 < b → a ≤ wrap64 (a + b) → wrap64 (a + b) = sat (a + b)) ∧
    (b < 0 → a < wrap64 (a + b) → -9223372036854775808 = sat (a + b)) ∧ (b < 0 → wrap64 (a + b) ≤ a → wrap64 (a + b) = sat (a + b)) ∧ (b ≤ 0 → 0 ≤ b → wrap64 (a + b) = sat (a + b)) := by
  obtain ⟨_, _⟩ := ha; obtain ⟨_, _⟩ := hb
  unfold wrap64 sat
  refine ⟨?_, ?_, ?_, ?_, ?_⟩ <;> intro _ _ <;> split <;> (try split) <;> omega
theorem sat_sub {a b : Int} (ha : I64 a) (hb : I64 b) :
    (b < 0 → wrap64 (a - b) < a → 9223372036854775807 = sat (a - b)) ∧ (b < 0 → a ≤ wrap64 (a - b) → wrap64 (a - b) = sat (a - b)) ∧
    (0 < b → a < wrap64 (a - b) → -9223372036854775808 = sat (a - b)) ∧ (0 < b → wrap64 (a - b) ≤ a → wrap64 (a - b) = sat (a - b)) ∧ (0 ≤ b → b ≤ 0 → wrap64 (a - b) = sat (a - b)) := by
  obtain ⟨_, _⟩ := ha; obtain ⟨_, _⟩ := hb
  unfold wrap64 sat
  refine ⟨?_, ?_, ?_, ?_, ?_⟩ <;> intro _ _ <;> split <;> (try split) <;> omega

theorem fixAdd (a b : Int) (ha : I64 a) (hb : I64 b) (w : World) :
    Calls Try.prog 16 #[.int .i64 a, .int .i64 b] w fun e w' => e = .returned (.int .i64 (sat (a + b))) ∧ w' = w := by
  go_enter Try.func16, Try.ntmps16
  go_wp2
  all_goals go_ret
  · exact ⟨ret_int ((sat_add ha hb).1 ‹_› ‹_›), rfl⟩
  · exact ⟨ret_int ((sat_add ha hb).2.1 ‹_› ‹_›), rfl⟩
  · exact ⟨ret_int ((sat_add ha hb).2.2.1 ‹_› ‹_›), rfl⟩
  · exact ⟨ret_int ((sat_add ha hb).2.2.2.1 ‹_› ‹_›), rfl⟩
  · exact ⟨ret_int ((sat_add ha hb).2.2.2.2 ‹_› ‹_›), rfl⟩

theorem fixSub (a b : Int) (ha : I64 a) (hb : I64 b) (w : World) :
    Calls Try.prog 18 #[.int .i64 a, .int .i64 b] w fun e w' => e = .returned (.int .i64 (sat (a - b))) ∧ w' = w := by
  go_enter Try.func18, Try.ntmps18
  go_wp2
  all_goals go_ret
  · exact ⟨ret_int ((sat_sub ha hb).1 ‹_› ‹_›), rfl⟩
  · exact ⟨ret_int ((sat_sub ha hb).2.1 ‹_› ‹_›), rfl⟩
  · exact ⟨ret_int ((sat_sub ha hb).2.2.1 ‹_› ‹_›), rfl⟩
  · exact ⟨ret_int ((sat_sub ha hb).2.2.2.1 ‹_› ‹_›), rfl⟩
  · exact ⟨ret_int ((sat_sub ha hb).2.2.2.2 ‹_› ‹_›), rfl⟩

theorem i64_0 : I64 0 := ⟨by omega, by omega⟩
theorem fixNeg (a : Int) (ha : I64 a) (w : World) :
    Calls Try.prog 20 #[.int .i64 a] w fun e w' => e = .returned (.int .i64 (sat (-a))) ∧ w' = w := by
  go_enter Try.func20, Try.ntmps20
  go_wp2_with (go_at_call 18; refine (fixSub 0 a i64_0 ha _).mono ?_; rintro e w' ⟨rfl, rfl⟩)
  go_ret
  exact ⟨rfl, rfl⟩

theorem mag_neg {a : Int} (ha : I64 a) (h : a < 0) : IntKind.u64.wrap (-IntKind.u64.wrap a) = mag a := by
  obtain ⟨_, _⟩ := ha
  rw [IntKind.wrap_u64, IntKind.wrap_u64]; unfold mag; rw [if_pos h]; omega
theorem mag_pos {a : Int} (h : 0 ≤ a) : a = mag a := by unfold mag; rw [if_neg (by omega)]
theorem fixSize (a : Int) (ha : I64 a) (w : World) :
    Calls Try.prog 45 #[.int .i64 a] w fun e w' => e = .returned (.int .u64 (mag a)) ∧ w' = w := by
  have h0 := ha.lo; have h1 := ha.hi
  go_enter Try.func45, Try.ntmps45
  go_wp2
  all_goals go_ret
  · exact ⟨ret_int (mag_neg ha ‹_›), rfl⟩
  · exact ⟨ret_int (mag_pos ‹_›), rfl⟩

theorem fixApart (a b : Int) (w : World) :
    Calls Try.prog 47 #[.int .i64 a, .int .i64 b] w fun e w' => e = .returned (.bool (apartB a b)) ∧ w' = w := by
  go_enter Try.func47, Try.ntmps47
  go_wp2
  go_ret
  exact ⟨ret_bool rfl, rfl⟩

/-- The end of a side. -/
def fend (b : Bool) : Int := if b then -9223372036854775808 else 9223372036854775807
theorem fixEnd (b : Bool) (w : World) :
    Calls Try.prog 50 #[.bool b] w fun e w' => e = .returned (.int .i64 (fend b)) ∧ w' = w := by
  cases b
  all_goals
    go_enter Try.func50, Try.ntmps50
    go_wp2
    go_ret
    exact ⟨rfl, rfl⟩

theorem fixNumber (h l : Int) (b : Bool) (hh : U64 h) (hl : U64 l) (w : World) :
    Calls Try.prog 43 #[.agg #[.int .u64 h, .int .u64 l], .bool b] w fun e w' => e = .returned (.int .i64 (numb (h * 18446744073709551616 + l) b)) ∧ Below w.heap.size w w' := by
  have h0 := hh.lo; have h1 := hh.hi; have l0 := hl.lo; have l1 := hl.hi
  cases b
  all_goals
    go_enter Try.func43, Try.ntmps43
    go_wp2
    all_goals go_ret
    all_goals refine ⟨ret_int ?_, (Below.refl _ _).alloc (Nat.le_refl _) _⟩
    all_goals (simp only [numb_t, numb_f, sat]; split <;> (try split) <;> omega)

/-! math/bits.Mul64: the library's own text, walked (the arithmetic: Derived.Lib.Mul64). -/
theorem maskN (a : Nat) (ha : a < 18446744073709551616) : bits .and .u64 (a : Int) 4294967295 = ((a % 4294967296 : Nat) : Int) := by
  have h := bits_and_u64_nat a 4294967295 ha (by omega)
  have e : a &&& 4294967295 = a % 4294967296 := Nat.and_two_pow_sub_one_eq_mod a 32
  rw [e] at h
  exact h
theorem divN (a : Nat) : (a : Int) / 4294967296 = ((a / 4294967296 : Nat) : Int) := by omega
theorem mulN (a b : Nat) : (a : Int) * (b : Int) = ((a * b : Nat) : Int) := (Int.natCast_mul a b).symm
theorem addN (a b : Nat) : (a : Int) + (b : Int) = ((a + b : Nat) : Int) := (Int.natCast_add a b).symm
theorem wrapN (a : Nat) (ha : a < 18446744073709551616) : IntKind.u64.wrap (a : Int) = (a : Int) := by rw [IntKind.wrap_u64]; omega
theorem wrapM (a : Nat) : IntKind.u64.wrap (a : Int) = ((a % 18446744073709551616 : Nat) : Int) := by rw [IntKind.wrap_u64]; omega

set_option maxHeartbeats 1000000 in
theorem bitsMul64N (x y : Nat) (hx : x < 18446744073709551616) (hy : y < 18446744073709551616) (w : World) :
    Calls Try.prog 68 #[.int .u64 x, .int .u64 y] w fun e w' => e = .returned (.tuple #[.int .u64 ((x * y / 18446744073709551616 : Nat) : Int), .int .u64 ((x * y % 18446744073709551616 : Nat) : Int)]) ∧ w' = w := by
  obtain ⟨bd, bt, bw, hhi⟩ := Lib.mul64_hi x y hx hy
  have ba := Lib.half_mul_le (a := x / 4294967296) (b := y / 4294967296) (by omega) (by omega)
  have bb := Lib.half_mul_le (a := x / 4294967296) (b := y % 4294967296) (by omega) (by omega)
  have bc := Lib.half_mul_le (a := x % 4294967296) (b := y / 4294967296) (by omega) (by omega)
  have ba' : x / 4294967296 * (y / 4294967296) < 18446744073709551616 := by omega
  have bb' : x / 4294967296 * (y % 4294967296) < 18446744073709551616 := by omega
  have bc' : x % 4294967296 * (y / 4294967296) < 18446744073709551616 := by omega
  have bh1 : x / 4294967296 * (y / 4294967296) + (x / 4294967296 * (y % 4294967296) + x % 4294967296 * (y % 4294967296) / 4294967296) / 4294967296 < 18446744073709551616 := by omega
  have bh : x / 4294967296 * (y / 4294967296) + (x / 4294967296 * (y % 4294967296) + x % 4294967296 * (y % 4294967296) / 4294967296) / 4294967296 + ((x / 4294967296 * (y % 4294967296) + x % 4294967296 * (y % 4294967296) / 4294967296) % 4294967296 + x % 4294967296 * (y / 4294967296)) / 4294967296 < 18446744073709551616 := by omega
  go_enter Try.func68, Try.ntmps68
  go_wp2
  simp only [maskN x hx, maskN y hy, divN, mulN, addN, wrapN _ bd, wrapN _ bb', wrapN _ bt, maskN _ bt, wrapN _ bc', wrapN _ bw, wrapN _ ba', wrapN _ bh1, wrapN _ bh, wrapM (x * y)]
  rw [hhi]
  go_ret2
  exact ⟨rfl, rfl⟩
theorem ret_two {a b c d : Int} (h : a = c) (k : b = d) : Ending.returned (.tuple #[.int .u64 a, .int .u64 b]) = .returned (.tuple #[.int .u64 c, .int .u64 d]) := by rw [h, k]
theorem ret_wide {a b c d : Int} (h : a = c) (k : b = d) : Ending.returned (.agg #[.int .u64 a, .int .u64 b]) = .returned (.agg #[.int .u64 c, .int .u64 d]) := by rw [h, k]
theorem bitsMul64 (x y : Int) (hx : U64 x) (hy : U64 y) (w : World) :
    Calls Try.prog 68 #[.int .u64 x, .int .u64 y] w fun e w' => e = .returned (.tuple #[.int .u64 (hi64 (x * y)), .int .u64 (lo64 (x * y))]) ∧ w' = w := by
  obtain ⟨x0, x1⟩ := hx; obtain ⟨y0, y1⟩ := hy
  obtain ⟨x, rfl⟩ := Int.eq_ofNat_of_zero_le x0
  obtain ⟨y, rfl⟩ := Int.eq_ofNat_of_zero_le y0
  refine (bitsMul64N x y (by omega) (by omega) w).mono fun e w' ⟨he, hw⟩ => ⟨he.trans (ret_two ?_ ?_), hw⟩
  · unfold hi64; rw [mulN]; omega
  · unfold lo64; rw [mulN]; omega

theorem fixProduct (a b : Int) (ha : U64 a) (hb : U64 b) (w : World) :
    Calls Try.prog 44 #[.int .u64 a, .int .u64 b] w fun e w' => e = .returned (.agg #[.int .u64 (hi64 (a * b)), .int .u64 (lo64 (a * b))]) ∧ Below w.heap.size w w' := by
  go_enter Try.func44, Try.ntmps44
  go_wp2_with (go_at_call 68; refine (bitsMul64 a b ha hb _).mono ?_; rintro e w' ⟨rfl, rfl⟩)
  refine bodyPost_ret (v := .agg #[.int .u64 (hi64 (a * b)), .int .u64 (lo64 (a * b))]) ?_ rfl ⟨rfl, ?_⟩
  · simp [results, Try.results44, go_sem]
  · exact (Below.refl _ _).alloc (Nat.le_refl _) _

theorem whole_hi {h l : Int} (hl : U64 l) : h / 65536 = hi64 ((h * 18446744073709551616 + l) / 65536) := by
  obtain ⟨_, _⟩ := hl; unfold hi64; omega
theorem whole_lo {h l : Int} (hh : U64 h) (hl : U64 l) : bits BinOp.or IntKind.u64 (IntKind.u64.wrap (h * 281474976710656)) (l / 65536) = lo64 ((h * 18446744073709551616 + l) / 65536) := by
  obtain ⟨h0, h1⟩ := hh; obtain ⟨l0, l1⟩ := hl
  obtain ⟨h, rfl⟩ := Int.eq_ofNat_of_zero_le h0
  obtain ⟨l, rfl⟩ := Int.eq_ofNat_of_zero_le l0
  rw [IntKind.wrap_u64]
  have e1 : ((h : Int) * 281474976710656) % 18446744073709551616 = ((2 ^ 48 * (h % 65536) : Nat) : Int) := by omega
  have e2 : (l : Int) / 65536 = ((l / 65536 : Nat) : Int) := by omega
  have hlt : l / 65536 < 2 ^ 48 := by omega
  rw [e1, e2, bits_or_u64_nat _ _ (by omega) (by omega), ← Nat.two_pow_add_eq_or_of_lt hlt]
  unfold lo64
  omega
theorem fixWhole (h l : Int) (hh : U64 h) (hl : U64 l) (w : World) :
    Calls Try.prog 46 #[.agg #[.int .u64 h, .int .u64 l]] w fun e w' => e = .returned (.agg #[.int .u64 (hi64 ((h * 18446744073709551616 + l) / 65536)), .int .u64 (lo64 ((h * 18446744073709551616 + l) / 65536))]) ∧ Below w.heap.size w w' := by
  have h0 := hh.lo; have h1 := hh.hi; have l0 := hl.lo; have l1 := hl.hi
  go_enter Try.func46, Try.ntmps46
  go_wp2
  refine bodyPost_ret (v := .agg #[.int .u64 (hi64 ((h * 18446744073709551616 + l) / 65536)), .int .u64 (lo64 ((h * 18446744073709551616 + l) / 65536))]) ?_ rfl ⟨rfl, ?_⟩
  · simp [results, Try.results46, go_sem]
    exact ⟨whole_hi hl, whole_lo hh hl⟩
  · exact ((Below.refl _ _).alloc (Nat.le_refl _) _).alloc (by simp) _

theorem more_eq {h l k m : Int} (hl : U64 l) (hm : U64 m) :
    ((h != k) = true → decide (k < h) = decide (k * 18446744073709551616 + m < h * 18446744073709551616 + l)) ∧
    ((h != k) = false → decide (m < l) = decide (k * 18446744073709551616 + m < h * 18446744073709551616 + l)) := by
  obtain ⟨_, _⟩ := hl; obtain ⟨_, _⟩ := hm
  constructor
  · intro e; rw [bne_iff_ne] at e; exact decide_eq_decide.2 (by omega)
  · intro e; rw [bne_eq_false_iff_eq] at e; subst e; exact decide_eq_decide.2 (by omega)
theorem fixGreater (h l k m : Int) (hh : U64 h) (hl : U64 l) (hk : U64 k) (hm : U64 m) (w : World) :
    Calls Try.prog 60 #[.agg #[.int .u64 h, .int .u64 l], .agg #[.int .u64 k, .int .u64 m]] w fun e w' => e = .returned (.bool (decide (k * 18446744073709551616 + m < h * 18446744073709551616 + l))) ∧ Below w.heap.size w w' := by
  cases e : (h != k)
  all_goals
    go_enter Try.func60, Try.ntmps60
    go_wp2
    go_ret
    refine ⟨ret_bool ?_, ((Below.refl _ _).alloc (Nat.le_refl _) _).alloc (by simp) _⟩
    first | exact (more_eq hl hm).1 e | exact (more_eq hl hm).2 e

/-! math/bits.Add64, Sub64: the model's own entries. -/
theorem add64 (x y c : Int) (hx : 0 ≤ x) (hy : 0 ≤ y) (hc0 : 0 ≤ c) (hc : c ≤ 1) (w : World) : (callFunc 72 #[.int .u64 x, .int .u64 y, .int .u64 c]).run Try.prog w =
    .ok (.value (.tuple #[.int .u64 (lo64 (x + y + c)), .int .u64 (hi64 (x + y + c))])) w := by
  rw [run_callFunc_extern Try.func72 (by kernel_rfl) (by kernel_rfl) (by kernel_rfl) (e := add64Entry) (by kernel_rfl), run_add64 x y c (by omega) (by omega) (by omega) (by omega)]
  rfl
theorem add64_0 (x y : Int) (hx : 0 ≤ x) (hy : 0 ≤ y) (w : World) : (callFunc 72 #[.int .u64 x, .int .u64 y, .int .u64 0]).run Try.prog w =
    .ok (.value (.tuple #[.int .u64 (lo64 (x + y)), .int .u64 (hi64 (x + y))])) w := by
  simpa using add64 x y 0 hx hy (Int.le_refl 0) (by decide) w
theorem add_hi {h l k m : Int} (hl : U64 l) (hm : U64 m) (hn : U128 (h * 18446744073709551616 + l + (k * 18446744073709551616 + m))) : lo64 (h + k + hi64 (l + m)) = hi64 (h * 18446744073709551616 + l + (k * 18446744073709551616 + m)) := by
  obtain ⟨_, _⟩ := hl; obtain ⟨_, _⟩ := hm; obtain ⟨_, _⟩ := hn; unfold hi64 lo64; omega
theorem add_lo {h l k m : Int} : lo64 (l + m) = lo64 (h * 18446744073709551616 + l + (k * 18446744073709551616 + m)) := by
  unfold lo64; omega
theorem carry_01 {l m : Int} (hl : U64 l) (hm : U64 m) : 0 ≤ hi64 (l + m) ∧ hi64 (l + m) ≤ 1 := by
  obtain ⟨_, _⟩ := hl; obtain ⟨_, _⟩ := hm; unfold hi64; omega
theorem fixPlus (h l k m : Int) (hh : U64 h) (hl : U64 l) (hk : U64 k) (hm : U64 m) (hn : U128 (h * 18446744073709551616 + l + (k * 18446744073709551616 + m))) (w : World) :
    Calls Try.prog 59 #[.agg #[.int .u64 h, .int .u64 l], .agg #[.int .u64 k, .int .u64 m]] w fun e w' => e = .returned (.agg #[.int .u64 (hi64 (h * 18446744073709551616 + l + (k * 18446744073709551616 + m))), .int .u64 (lo64 (h * 18446744073709551616 + l + (k * 18446744073709551616 + m)))]) ∧ Below w.heap.size w w' := by
  obtain ⟨k0, k1⟩ := carry_01 hl hm
  go_enter Try.func59, Try.ntmps59
  go_wp2_with (first | simp only [add64_0 l m hl.lo hm.lo] | simp only [add64 h k _ hh.lo hk.lo k0 k1])
  refine bodyPost_ret (v := .agg #[.int .u64 (hi64 (h * 18446744073709551616 + l + (k * 18446744073709551616 + m))), .int .u64 (lo64 (h * 18446744073709551616 + l + (k * 18446744073709551616 + m)))]) ?_ rfl ⟨rfl, ?_⟩
  · simp [results, Try.results59, go_sem]
    exact ⟨add_hi hl hm hn, add_lo⟩
  · exact (((Below.refl _ _).alloc (Nat.le_refl _) _).alloc (by simp) _).alloc (by simp; omega) _

/-- The borrow. -/
def bor (x y : Int) : Int := if x < y then 1 else 0
theorem bor_01 (x y : Int) : 0 ≤ bor x y ∧ bor x y ≤ 1 := by unfold bor; split <;> omega
theorem sub64 (x y b : Int) (hx : 0 ≤ x) (hy : 0 ≤ y) (hy' : y < 18446744073709551616) (hb0 : 0 ≤ b) (hb : b ≤ 1) (w : World) : (callFunc 73 #[.int .u64 x, .int .u64 y, .int .u64 b]).run Try.prog w =
    .ok (.value (.tuple #[.int .u64 (lo64 (x - y - b)), .int .u64 (bor x (y + b))])) w := by
  obtain ⟨x, rfl⟩ := Int.eq_ofNat_of_zero_le hx
  obtain ⟨y, rfl⟩ := Int.eq_ofNat_of_zero_le hy
  obtain ⟨b, rfl⟩ := Int.eq_ofNat_of_zero_le hb0
  have e1 : (((x + 18446744073709551616 - y - b) % 18446744073709551616 : Nat) : Int) = lo64 ((x : Int) - y - b) := by unfold lo64; omega
  have e2 : ((if x < y + b then 1 else 0 : Nat) : Int) = bor (x : Int) (y + b) := by unfold bor; split <;> split <;> omega
  rw [← e1, ← e2, run_callFunc_extern Try.func73 (by kernel_rfl) (by kernel_rfl) (by kernel_rfl) (e := sub64Entry) (by kernel_rfl), run_sub64 x y b (by omega)]
  rfl
theorem sub64_0 (x y : Int) (hx : 0 ≤ x) (hy : 0 ≤ y) (hy' : y < 18446744073709551616) (w : World) : (callFunc 73 #[.int .u64 x, .int .u64 y, .int .u64 0]).run Try.prog w =
    .ok (.value (.tuple #[.int .u64 (lo64 (x - y)), .int .u64 (bor x y)])) w := by
  simpa using sub64 x y 0 hx hy hy' (Int.le_refl 0) (by decide) w
theorem sub_hi {h l k m : Int} (hl : U64 l) (hm : U64 m) (hn : U128 (h * 18446744073709551616 + l - (k * 18446744073709551616 + m))) : lo64 (h - k - bor l m) = hi64 (h * 18446744073709551616 + l - (k * 18446744073709551616 + m)) := by
  obtain ⟨_, _⟩ := hl; obtain ⟨_, _⟩ := hm; obtain ⟨_, _⟩ := hn; unfold hi64 lo64 bor; split <;> omega
theorem sub_lo {h l k m : Int} : lo64 (l - m) = lo64 (h * 18446744073709551616 + l - (k * 18446744073709551616 + m)) := by
  unfold lo64; omega
theorem fixMinus (h l k m : Int) (hh : U64 h) (hl : U64 l) (hk : U64 k) (hm : U64 m) (hn : U128 (h * 18446744073709551616 + l - (k * 18446744073709551616 + m))) (w : World) :
    Calls Try.prog 61 #[.agg #[.int .u64 h, .int .u64 l], .agg #[.int .u64 k, .int .u64 m]] w fun e w' => e = .returned (.agg #[.int .u64 (hi64 (h * 18446744073709551616 + l - (k * 18446744073709551616 + m))), .int .u64 (lo64 (h * 18446744073709551616 + l - (k * 18446744073709551616 + m)))]) ∧ Below w.heap.size w w' := by
  obtain ⟨k0, k1⟩ := bor_01 l m
  go_enter Try.func61, Try.ntmps61
  go_wp2_with (first | simp only [sub64_0 l m hl.lo hm.lo hm.hi] | simp only [sub64 h k _ hh.lo hk.lo hk.hi k0 k1])
  refine bodyPost_ret (v := .agg #[.int .u64 (hi64 (h * 18446744073709551616 + l - (k * 18446744073709551616 + m))), .int .u64 (lo64 (h * 18446744073709551616 + l - (k * 18446744073709551616 + m)))]) ?_ rfl ⟨rfl, ?_⟩
  · simp [results, Try.results61, go_sem]
    exact ⟨sub_hi hl hm hn, sub_lo⟩
  · exact (((Below.refl _ _).alloc (Nat.le_refl _) _).alloc (by simp) _).alloc (by simp; omega) _

end Go.Proofs.Ytfgbkmcbpmmfdaa
