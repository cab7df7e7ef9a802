/- Layer 1 (fix): Long; joined out of elder texts. -/
import Derived.Test.YthcmcjklhcfenaaTsE
import Derived.Test.YthcmcjklhcfenaaGrD
import Derived.Deep.RegionWith
import Derived.Lib.Mul64
import Derived.Shelf.Spec.BitsCarry
namespace Go.Proofs.Ythcmcjklhcfenaa
open Go.RowKit
set_option linter.unusedVariables false
attribute [local go_sem ↓] Go.wp_at_zero Go.wp_at_succ

theorem mag_neg {a : Int} (ha : I64 a) (h : a < 0) : IntKind.u64.wrap (-IntKind.u64.wrap a) = mag a := by
  obtain ⟨_, _⟩ := ha
  rw [IntKind.wrap_u64, IntKind.wrap_u64]; unfold mag; rw [if_pos h]; omega
theorem mag_pos {a : Int} (h : 0 ≤ a) : a = mag a := by unfold mag; rw [if_neg (by omega)]
theorem fixSize (a : Int) (ha : I64 a) (w : World) :
    Calls Try.prog 43 #[.int .i64 a] w fun e w' => e = .returned (.int .u64 (mag a)) ∧ w' = w := by
  have h0 := ha.lo; have h1 := ha.hi
  go_enter Try.func43, Try.ntmps43
  go_wp2
  all_goals go_ret
  · exact ⟨ret_intF (mag_neg ha ‹_›), rfl⟩
  · exact ⟨ret_intF (mag_pos ‹_›), rfl⟩
theorem fixNumber (h l : Int) (b : Bool) (hh : U64 h) (hl : U64 l) (w : World) :
    Calls Try.prog 44 #[.agg #[.int .u64 h, .int .u64 l], .bool b] w fun e w' => e = .returned (.int .i64 (numb (h * 18446744073709551616 + l) b)) ∧ Below w.heap.size w w' := by
  have h0 := hh.lo; have h1 := hh.hi; have l0 := hl.lo; have l1 := hl.hi
  cases b
  all_goals
    go_enter Try.func44, Try.ntmps44
    go_wp2
    all_goals go_ret
    all_goals refine ⟨ret_intF ?_, (Below.refl _ _).alloc (Nat.le_refl _) _⟩
    all_goals (simp only [numb_t, numb_f, sat]; split <;> (try split) <;> omega)
/-! math/bits.Mul64: the library's own text, walked (the arithmetic: Derived.Lib.Mul64). -/
theorem maskN (a : Nat) (ha : a < 18446744073709551616) : bits .and .u64 (a : Int) 4294967295 = ((a % 4294967296 : Nat) : Int) := by
  have h := bits_and_u64_nat a 4294967295 ha (by omega)
  have e : a &&& 4294967295 = a % 4294967296 := Nat.and_two_pow_sub_one_eq_mod a 32
  rw [e] at h
  exact h
theorem divN (a : Nat) : (a : Int) / 4294967296 = ((a / 4294967296 : Nat) : Int) := by omega
theorem mulN (a b : Nat) : (a : Int) * (b : Int) = ((a * b : Nat) : Int) := (Int.natCast_mul a b).symm
theorem addN (a b : Nat) : (a : Int) + (b : Int) = ((a + b : Nat) : Int) := (Int.natCast_add a b).symm
theorem wrapN (a : Nat) (ha : a < 18446744073709551616) : IntKind.u64.wrap (a : Int) = (a : Int) := by rw [IntKind.wrap_u64]; omega
theorem wrapM (a : Nat) : IntKind.u64.wrap (a : Int) = ((a % 18446744073709551616 : Nat) : Int) := by rw [IntKind.wrap_u64]; omega
set_option maxHeartbeats 1000000 in
theorem bitsMul64N (x y : Nat) (hx : x < 18446744073709551616) (hy : y < 18446744073709551616) (w : World) :
    Calls Try.prog 47 #[.int .u64 x, .int .u64 y] w fun e w' => e = .returned (.tuple #[.int .u64 ((x * y / 18446744073709551616 : Nat) : Int), .int .u64 ((x * y % 18446744073709551616 : Nat) : Int)]) ∧ w' = w := by
  obtain ⟨bd, bt, bw, hhi⟩ := Lib.mul64_hi x y hx hy
  have ba := Lib.half_mul_le (a := x / 4294967296) (b := y / 4294967296) (by omega) (by omega)
  have bb := Lib.half_mul_le (a := x / 4294967296) (b := y % 4294967296) (by omega) (by omega)
  have bc := Lib.half_mul_le (a := x % 4294967296) (b := y / 4294967296) (by omega) (by omega)
  have ba' : x / 4294967296 * (y / 4294967296) < 18446744073709551616 := by omega
  have bb' : x / 4294967296 * (y % 4294967296) < 18446744073709551616 := by omega
  have bc' : x % 4294967296 * (y / 4294967296) < 18446744073709551616 := by omega
  have bh1 : x / 4294967296 * (y / 4294967296) + (x / 4294967296 * (y % 4294967296) + x % 4294967296 * (y % 4294967296) / 4294967296) / 4294967296 < 18446744073709551616 := by omega
  have bh : x / 4294967296 * (y / 4294967296) + (x / 4294967296 * (y % 4294967296) + x % 4294967296 * (y % 4294967296) / 4294967296) / 4294967296 + ((x / 4294967296 * (y % 4294967296) + x % 4294967296 * (y % 4294967296) / 4294967296) % 4294967296 + x % 4294967296 * (y / 4294967296)) / 4294967296 < 18446744073709551616 := by omega
  go_enter Try.func47, Try.ntmps47
  go_wp2
  simp only [maskN x hx, maskN y hy, divN, mulN, addN, wrapN _ bd, wrapN _ bb', wrapN _ bt, maskN _ bt, wrapN _ bc', wrapN _ bw, wrapN _ ba', wrapN _ bh1, wrapN _ bh, wrapM (x * y)]
  rw [hhi]
  go_ret2
  exact ⟨rfl, rfl⟩
theorem ret_two {a b c d : Int} (h : a = c) (k : b = d) : Ending.returned (.tuple #[.int .u64 a, .int .u64 b]) = .returned (.tuple #[.int .u64 c, .int .u64 d]) := by rw [h, k]
theorem bitsMul64 (x y : Int) (hx : U64 x) (hy : U64 y) (w : World) :
    Calls Try.prog 47 #[.int .u64 x, .int .u64 y] w fun e w' => e = .returned (.tuple #[.int .u64 (hi64 (x * y)), .int .u64 (lo64 (x * y))]) ∧ w' = w := by
  obtain ⟨x0, x1⟩ := hx; obtain ⟨y0, y1⟩ := hy
  obtain ⟨x, rfl⟩ := Int.eq_ofNat_of_zero_le x0
  obtain ⟨y, rfl⟩ := Int.eq_ofNat_of_zero_le y0
  refine (bitsMul64N x y (by omega) (by omega) w).mono fun e w' ⟨he, hw⟩ => ⟨he.trans (ret_two ?_ ?_), hw⟩
  · unfold hi64; rw [mulN]; omega
  · unfold lo64; rw [mulN]; omega
theorem fixProduct (a b : Int) (ha : U64 a) (hb : U64 b) (w : World) :
    Calls Try.prog 42 #[.int .u64 a, .int .u64 b] w fun e w' => e = .returned (.agg #[.int .u64 (hi64 (a * b)), .int .u64 (lo64 (a * b))]) ∧ Below w.heap.size w w' := by
  go_enter Try.func42, Try.ntmps42
  go_wp2_with (go_at_call 47; refine (bitsMul64 a b ha hb _).mono ?_; rintro e w' ⟨rfl, rfl⟩)
  refine bodyPost_ret (v := .agg #[.int .u64 (hi64 (a * b)), .int .u64 (lo64 (a * b))]) ?_ rfl ⟨rfl, ?_⟩
  · simp [results, Try.results42, go_sem]
  · exact (Below.refl _ _).alloc (Nat.le_refl _) _
theorem more_eq {h l k m : Int} (hl : U64 l) (hm : U64 m) :
    ((h != k) = true → decide (k < h) = decide (k * 18446744073709551616 + m < h * 18446744073709551616 + l)) ∧
    ((h != k) = false → decide (m < l) = decide (k * 18446744073709551616 + m < h * 18446744073709551616 + l)) := by
  obtain ⟨_, _⟩ := hl; obtain ⟨_, _⟩ := hm
  constructor
  · intro e; rw [bne_iff_ne] at e; exact decide_eq_decide.2 (by omega)
  · intro e; rw [bne_eq_false_iff_eq] at e; subst e; exact decide_eq_decide.2 (by omega)
theorem fixGreater (h l k m : Int) (hh : U64 h) (hl : U64 l) (hk : U64 k) (hm : U64 m) (w : World) :
    Calls Try.prog 49 #[.agg #[.int .u64 h, .int .u64 l], .agg #[.int .u64 k, .int .u64 m]] w fun e w' => e = .returned (.bool (decide (k * 18446744073709551616 + m < h * 18446744073709551616 + l))) ∧ Below w.heap.size w w' := by
  cases e : (h != k)
  all_goals
    go_enter Try.func49, Try.ntmps49
    go_wp2
    go_ret
    refine ⟨ret_boolF ?_, ((Below.refl _ _).alloc (Nat.le_refl _) _).alloc (by simp) _⟩
    first | exact (more_eq hl hm).1 e | exact (more_eq hl hm).2 e
/-! math/bits.Add64, Sub64: the model's own entries. -/
theorem add64 (x y c : Int) (hx : 0 ≤ x) (hy : 0 ≤ y) (hc0 : 0 ≤ c) (hc : c ≤ 1) (w : World) : (callFunc 46 #[.int .u64 x, .int .u64 y, .int .u64 c]).run Try.prog w =
    .ok (.value (.tuple #[.int .u64 (lo64 (x + y + c)), .int .u64 (hi64 (x + y + c))])) w := by
  rw [run_callFunc_extern Try.func46 (by kernel_rfl) (by kernel_rfl) (by kernel_rfl) (e := add64Entry) (by kernel_rfl), run_add64 x y c (by omega) (by omega) (by omega) (by omega)]
  rfl
theorem add64_0 (x y : Int) (hx : 0 ≤ x) (hy : 0 ≤ y) (w : World) : (callFunc 46 #[.int .u64 x, .int .u64 y, .int .u64 0]).run Try.prog w =
    .ok (.value (.tuple #[.int .u64 (lo64 (x + y)), .int .u64 (hi64 (x + y))])) w := by
  simpa using add64 x y 0 hx hy (Int.le_refl 0) (by decide) w
theorem add_hi {h l k m : Int} (hl : U64 l) (hm : U64 m) (hn : U128 (h * 18446744073709551616 + l + (k * 18446744073709551616 + m))) : lo64 (h + k + hi64 (l + m)) = hi64 (h * 18446744073709551616 + l + (k * 18446744073709551616 + m)) := by
  obtain ⟨_, _⟩ := hl; obtain ⟨_, _⟩ := hm; obtain ⟨_, _⟩ := hn; unfold hi64 lo64; omega
theorem add_lo {h l k m : Int} : lo64 (l + m) = lo64 (h * 18446744073709551616 + l + (k * 18446744073709551616 + m)) := by
  unfold lo64; omega
theorem carry_01 {l m : Int} (hl : U64 l) (hm : U64 m) : 0 ≤ hi64 (l + m) ∧ hi64 (l + m) ≤ 1 := by
  obtain ⟨_, _⟩ := hl; obtain ⟨_, _⟩ := hm; unfold hi64; omega
theorem fixPlus (h l k m : Int) (hh : U64 h) (hl : U64 l) (hk : U64 k) (hm : U64 m) (hn : U128 (h * 18446744073709551616 + l + (k * 18446744073709551616 + m))) (w : World) :
    Calls Try.prog 41 #[.agg #[.int .u64 h, .int .u64 l], .agg #[.int .u64 k, .int .u64 m]] w fun e w' => e = .returned (.agg #[.int .u64 (hi64 (h * 18446744073709551616 + l + (k * 18446744073709551616 + m))), .int .u64 (lo64 (h * 18446744073709551616 + l + (k * 18446744073709551616 + m)))]) ∧ Below w.heap.size w w' := by
  obtain ⟨k0, k1⟩ := carry_01 hl hm
  go_enter Try.func41, Try.ntmps41
  go_wp2_with (first | simp only [add64_0 l m hl.lo hm.lo] | simp only [add64 h k _ hh.lo hk.lo k0 k1])
  refine bodyPost_ret (v := .agg #[.int .u64 (hi64 (h * 18446744073709551616 + l + (k * 18446744073709551616 + m))), .int .u64 (lo64 (h * 18446744073709551616 + l + (k * 18446744073709551616 + m)))]) ?_ rfl ⟨rfl, ?_⟩
  · simp [results, Try.results41, go_sem]
    exact ⟨add_hi hl hm hn, add_lo⟩
  · exact (((Below.refl _ _).alloc (Nat.le_refl _) _).alloc (by simp) _).alloc (by simp; omega) _
theorem fixGreaterN (n h l : Int) (hn : U128 n) (hh : U64 h) (hl : U64 l) (g : Bool) (hg : Hid (g = decide (h * 18446744073709551616 + l < n))) (w : World) :
    Calls Try.prog 49 #[.agg #[.int .u64 (hi64 n), .int .u64 (lo64 n)], .agg #[.int .u64 h, .int .u64 l]] w fun e w' => e = .returned (.bool g) ∧ Below w.heap.size w w' := by
  refine (fixGreater _ _ h l (hi64_u64 hn) (lo64_u64 n) hh hl w).mono fun e w' ⟨he, hb⟩ => ⟨he.trans (ret_boolF ?_), hb⟩
  rw [join64]; exact hg.out.symm
/-- A box of two cells reads as it did, and nothing older has turned. -/
theorem keep2 {w W w1 : World} {x y : Value} (hb : Below W.heap.size W w1) (h : w.heap.size < W.heap.size ∧ W.cell? ⟨w.heap.size, 0, none⟩ = some x ∧ W.cell? ⟨w.heap.size, 1, none⟩ = some y ∧ Below w.heap.size w W) :
    w.heap.size < w1.heap.size ∧ w1.cell? ⟨w.heap.size, 0, none⟩ = some x ∧ w1.cell? ⟨w.heap.size, 1, none⟩ = some y ∧ Below w.heap.size w w1 :=
  ⟨Nat.lt_of_lt_of_le h.1 hb.size, (hb.cell (p := ⟨w.heap.size, 0, none⟩) h.1).trans h.2.1, (hb.cell (p := ⟨w.heap.size, 1, none⟩) h.1).trans h.2.2.1, h.2.2.2.trans (hb.mono (Nat.le_of_lt h.1))⟩
theorem drew2 {w W : World} {x y : Value} (h : w.heap.size < W.heap.size ∧ W.cell? ⟨w.heap.size, 0, none⟩ = some x ∧ W.cell? ⟨w.heap.size, 1, none⟩ = some y ∧ Below w.heap.size w W) :
    w.heap.size < W.drew.heap.size ∧ W.drew.cell? ⟨w.heap.size, 0, none⟩ = some x ∧ W.drew.cell? ⟨w.heap.size, 1, none⟩ = some y ∧ Below w.heap.size w W.drew :=
  ⟨h.1, h.2.1, h.2.2.1, h.2.2.2.drew⟩
set_option maxHeartbeats 1000000 in
theorem fixRoot (h l : Int) (hh : U64 h) (hl : U64 l) (w : World) :
    Calls Try.prog 45 #[.agg #[.int .u64 h, .int .u64 l]] w fun e w' => e = .returned (.int .u64 (root (h * 18446744073709551616 + l).toNat : Nat)) ∧ Below w.heap.size w w' := by
  obtain ⟨N, hN⟩ : ∃ N : Nat, h * 18446744073709551616 + l = (N : Int) := ⟨(h * 18446744073709551616 + l).toNat, by have := (u128_join hh hl).lo; omega⟩
  have HN : Hid (h * 18446744073709551616 + l = (N : Int)) := hN
  rw [hN, Int.toNat_natCast]
  clear hN
  go_enter Try.func45, Try.ntmps45
  go_wp2
  go_loopw [3, 4] (fun n b wr => ∃ acc p : Nat, n = .int .u64 acc ∧ b = .int .u64 p ∧ RootInv N acc p ∧ w.heap.size < wr.heap.size ∧ wr.cell? ⟨w.heap.size, 0, none⟩ = some (.int .u64 h) ∧ wr.cell? ⟨w.heap.size, 1, none⟩ = some (.int .u64 l) ∧ Below w.heap.size w wr) (fun _ b _ => (intOf b).toNat)
  case atStart => exact ⟨0, 9223372036854775808, rfl, rfl, RootInv.start N, by simp, by simp [go_sem], by simp [go_sem], (Below.refl _ _).alloc (Nat.le_refl _) _⟩
  case round =>
    obtain ⟨acc, p, rfl, rfl, inv, hcell⟩ := hrel
    by_cases hp : 0 < p
    · have hpi : (0 : Int) < (p : Int) := by omega
      obtain ⟨q, hq⟩ : ∃ q, acc + p = q := ⟨_, rfl⟩
      have HQ : Hid (acc + p = q) := hq
      have hlt := inv.lt hp
      have hor : bits BinOp.or IntKind.u64 (acc : Int) (p : Int) = (q : Int) := by
        rw [bits_or_u64_nat _ _ (by omega) (by omega), inv.or hp, hq]
      have hqu : U64 (q : Int) := ⟨by omega, by omega⟩
      have st := inv.step hp
      rw [hq] at st
      clear hq
      by_cases hle : q * q ≤ N
      · rw [if_pos hle] at st
        have HG : Hid (false = decide (h * 18446744073709551616 + l < (q : Int) * q)) := by
          rw [HN.out]; exact (decide_eq_false (by have : ((q * q : Nat) : Int) ≤ N := by omega
                                                  rw [Int.natCast_mul] at this; omega)).symm
        clear hle
        go_wp2
        have hcd := drew2 hcell
        go_region_held3 (fun w' => w.heap.size < w'.heap.size ∧ w'.cell? ⟨w.heap.size, 0, none⟩ = some (.int .u64 h) ∧ w'.cell? ⟨w.heap.size, 1, none⟩ = some (.int .u64 l) ∧ Below w.heap.size w w') (first | assumption | exact keep2 (by assumption) (by assumption))
          (first
            | (go_at_call 42; refine (fixProduct _ _ hqu hqu _).mono ?_; rintro e w1 ⟨rfl, b1⟩)
            | (go_at_call 49; refine (fixGreaterN _ h l (mul_u128 hqu hqu) hh hl false HG _).mono ?_; rintro e w2 ⟨rfl, b2⟩))
        go_wp2
        exact ⟨⟨q, p / 2, rfl, by go_num, st, by assumption⟩, by simp [intOf]; omega⟩
      · rw [if_neg hle] at st
        have HG : Hid (true = decide (h * 18446744073709551616 + l < (q : Int) * q)) := by
          rw [HN.out]; exact (decide_eq_true (by have : (N : Int) < ((q * q : Nat) : Int) := by omega
                                                 rw [Int.natCast_mul] at this; omega)).symm
        clear hle
        go_wp2
        have hcd := drew2 hcell
        go_region_held3 (fun w' => w.heap.size < w'.heap.size ∧ w'.cell? ⟨w.heap.size, 0, none⟩ = some (.int .u64 h) ∧ w'.cell? ⟨w.heap.size, 1, none⟩ = some (.int .u64 l) ∧ Below w.heap.size w w') (first | assumption | exact keep2 (by assumption) (by assumption))
          (first
            | (go_at_call 42; refine (fixProduct _ _ hqu hqu _).mono ?_; rintro e w1 ⟨rfl, b1⟩)
            | (go_at_call 49; refine (fixGreaterN _ h l (mul_u128 hqu hqu) hh hl true HG _).mono ?_; rintro e w2 ⟨rfl, b2⟩))
        go_wp2
        exact ⟨⟨acc, p / 2, rfl, by go_num, st, by assumption⟩, by simp [intOf]; omega⟩
    · obtain rfl : p = 0 := by omega
      have hd := inv.done
      have hbel := hcell.2.2.2
      clear inv
      subst hd
      go_wp2
      go_ret
      exact ⟨rfl, hbel⟩
theorem two_new {W : World} {b : Nat} {x y u0 u1 : Value} (h0 : W.cell? ⟨b, 0, none⟩ = some u0) (h1 : W.cell? ⟨b, 1, none⟩ = some u1) :
    ((W.setCell ⟨b, 0, none⟩ x).setCell ⟨b, 1, none⟩ y).cell? ⟨b, 0, none⟩ = some x ∧ ((W.setCell ⟨b, 0, none⟩ x).setCell ⟨b, 1, none⟩ y).cell? ⟨b, 1, none⟩ = some y := by
  obtain ⟨_, k1⟩ := some_set (a := ⟨b, 0, none⟩) (x := x) h1
  refine ⟨?_, World.cell?_setCell_same _ _ _ k1⟩
  rw [World.cell?_setCell_other _ _ _ _ (by simp)]; exact World.cell?_setCell_same _ _ _ h0
/-- The sum in the box grows by a product. -/
def Adds (c : Nat) (w w' : World) (n : Int) : Prop :=
  w'.os = w.os ∧ w'.tape = w.tape ∧ w'.output = w.output ∧ w.heap.size ≤ w'.heap.size ∧ (∀ k, k < w.heap.size → k ≠ c → w'.heap[k]? = w.heap[k]?) ∧
  w'.cell? ⟨c, 0, none⟩ = some (.int .u64 (hi64 n)) ∧ w'.cell? ⟨c, 1, none⟩ = some (.int .u64 (lo64 n)) ∧ w'.frozen? ⟨c, 0, none⟩ = false ∧ w'.frozen? ⟨c, 1, none⟩ = false
theorem adds_mk {c : Nat} {w w2 : World} {n m : Int} {u0 u1 : Value} (e : m = n) (hb : Below w.heap.size w w2) (hlt : c < w.heap.size) (h0 : w2.cell? ⟨c, 0, none⟩ = some u0) (h1 : w2.cell? ⟨c, 1, none⟩ = some u1)
    (f0 : w2.frozen? ⟨c, 0, none⟩ = false) (f1 : w2.frozen? ⟨c, 1, none⟩ = false) : Adds c w ((w2.setCell ⟨c, 0, none⟩ (.int .u64 (hi64 m))).setCell ⟨c, 1, none⟩ (.int .u64 (lo64 m))) n := by
  subst e
  obtain ⟨r0, r1⟩ := two_new (x := .int .u64 (hi64 m)) (y := .int .u64 (lo64 m)) h0 h1
  refine ⟨hb.os, hb.tape, hb.output, by simpa [World.setCell] using hb.size, fun k hk hne => ?_, r0, r1, ?_, ?_⟩
  · rw [Below.heap_setCell _ _ _ _ hne, Below.heap_setCell _ _ _ _ hne]; exact hb.block k hk
  · rw [World.frozen?_setCell, World.frozen?_setCell]; exact f0
  · rw [World.frozen?_setCell, World.frozen?_setCell]; exact f1
theorem bdrew {w w1 : World} (h : Below w.drew.heap.size w.drew w1) : Below w.heap.size w w1 := ⟨h.os, h.tape, h.output, h.size, h.block⟩
theorem Adds.trans {c : Nat} {w w1 w2 : World} {n m : Int} (h : Adds c w w1 n) (k : Adds c w1 w2 m) : Adds c w w2 m := by
  obtain ⟨a1, a2, a3, a4, a5, _⟩ := h
  obtain ⟨b1, b2, b3, b4, b5, b6⟩ := k
  exact ⟨b1.trans a1, b2.trans a2, b3.trans a3, Nat.le_trans a4 b4, fun i hi hne => (b5 i (by omega) hne).trans (a5 i hi hne), b6⟩
theorem Adds.of_below {c : Nat} {w w1 w2 : World} {n : Int} (h : Below w.heap.size w w1) (k : Adds c w1 w2 n) : Adds c w w2 n := by
  obtain ⟨b1, b2, b3, b4, b5, b6⟩ := k
  exact ⟨b1.trans h.os, b2.trans h.tape, b3.trans h.output, Nat.le_trans h.size b4, fun i hi hne => (b5 i (by have := h.size; omega) hne).trans (h.block i hi), b6⟩
theorem Adds.below {c B : Nat} {w w1 : World} {n : Int} (h : Adds c w w1 n) (hB : B ≤ c) (hw : B ≤ w.heap.size) : Below B w w1 :=
  ⟨h.1, h.2.1, h.2.2.1, h.2.2.2.1, fun k hk => h.2.2.2.2.1 k (by omega) (by omega)⟩
theorem Adds.cell {c : Nat} {w w1 : World} {n : Int} (h : Adds c w w1 n) {b o : Nat} {v : Value} (hb : b < w.heap.size) (hne : b ≠ c) (hv : w.cell? ⟨b, o, none⟩ = some v) : w1.cell? ⟨b, o, none⟩ = some v :=
  (World.cell?_of_block (w := w) (h.2.2.2.2.1 b hb hne)).trans hv
set_option maxHeartbeats 2000000 in
theorem longFn (x y n : Int) (c : Nat) (hx : I64 x) (hy : I64 y) (hn : U128 n) (hs : U128 (n + mag x * mag y)) (w : World) (hlt : c < w.heap.size)
    (hc0 : w.cell? ⟨c, 0, none⟩ = some (.int .u64 (hi64 n))) (hc1 : w.cell? ⟨c, 1, none⟩ = some (.int .u64 (lo64 n))) (hf0 : w.frozen? ⟨c, 0, none⟩ = false) (hf1 : w.frozen? ⟨c, 1, none⟩ = false) :
    Calls Try.prog 40 #[.int .i64 x, .int .i64 y, .pointer (some ⟨c, 0, none⟩)] w fun e w' => e = .returned (.tuple #[]) ∧ Adds c w w' (n + mag x * mag y) := by
  have hp := mul_u128 (mag_u64 hx) (mag_u64 hy)
  go_enter Try.func40, Try.ntmps40
  go_wp2
  go_region_with (first
    | (go_at_call 43; refine (fixSize _ (by assumption) _).mono ?_; rintro e w' ⟨rfl, rfl⟩)
    | (go_at_call 42; refine (fixProduct _ _ (mag_u64 hx) (mag_u64 hy) _).mono ?_; rintro e w1 ⟨rfl, bel⟩; have k0 := keepCell bel hlt hc0; have k1 := keepCell bel hlt hc1; have k2 := keepFrozen bel hlt hf0; have k3 := keepFrozen bel hlt hf1)
    | (go_at_call 41; refine (fixPlus _ _ _ _ (hi64_u64 hn) (lo64_u64 _) (hi64_u64 hp) (lo64_u64 _) (by rw [join64, join64]; exact hs) _).mono ?_; rintro e w2 ⟨rfl, bel2⟩; have hl1 : c < w1.heap.size := Nat.lt_of_lt_of_le hlt bel.size; have m0 := keepCell bel2 hl1 k0; have m1 := keepCell bel2 hl1 k1; have m2 := keepFrozen bel2 hl1 k2; have m3 := keepFrozen bel2 hl1 k3))
  all_goals
    go_end0
    exact ⟨rfl, adds_mk (by rw [join64, join64]) (btransF (bdrew bel) bel2) hlt (by assumption) (by assumption) (by assumption) (by assumption)⟩
set_option maxHeartbeats 2000000 in
theorem alongLong (a1 a2 a3 n : Int) (c : Nat) (h1 : I64 a1) (h2 : I64 a2) (h3 : I64 a3) (hn : U128 n) (s1 : U128 (n + mag a1 * mag a1)) (s2 : U128 (n + mag a1 * mag a1 + mag a2 * mag a2)) (s3 : U128 (n + mag a1 * mag a1 + mag a2 * mag a2 + mag a3 * mag a3)) (w : World) (hlt : c < w.heap.size)
    (hc0 : w.cell? ⟨c, 0, none⟩ = some (.int .u64 (hi64 n))) (hc1 : w.cell? ⟨c, 1, none⟩ = some (.int .u64 (lo64 n))) (hf0 : w.frozen? ⟨c, 0, none⟩ = false) (hf1 : w.frozen? ⟨c, 1, none⟩ = false) :
    Calls Try.prog 39 #[.agg #[.int .i64 a1, .int .i64 a2, .int .i64 a3], .agg #[.int .i64 a1, .int .i64 a2, .int .i64 a3], .func (.func 40) #[] #[.pointer (some ⟨c, 0, none⟩)]] w fun e w' =>
      e = .returned (.tuple #[]) ∧ Adds c w w' (n + mag a1 * mag a1 + mag a2 * mag a2 + mag a3 * mag a3) := by
  go_enter Try.func39, Try.ntmps39
  go_wp2_with fail
  generalize hW : ((w.alloc (.cells #[.int .i64 a1, .int .i64 a2, .int .i64 a3] 27)).alloc (.cells #[.int .i64 a1, .int .i64 a2, .int .i64 a3] 27)) = W
  have hB : Below w.heap.size w W := by rw [← hW]; exact ((Below.refl _ _).alloc (Nat.le_refl _) _).alloc (by simp) _
  have hsz : w.heap.size + 1 < W.heap.size := by rw [← hW]; simp
  have q1 : ∀ W1 : World, Adds c W W1 (n + mag a1 * mag a1) → W1.cell? ⟨w.heap.size, 1, none⟩ = some (.int .i64 a2) ∧ W1.cell? ⟨w.heap.size + 1, 1, none⟩ = some (.int .i64 a2) := by
    intro W1 h
    refine ⟨h.cell (by omega) (by omega) ?_, h.cell (by omega) (by omega) ?_⟩ <;> (rw [← hW]; simp [go_sem])
  have q2 : ∀ W1 : World, Adds c W W1 (n + mag a1 * mag a1 + mag a2 * mag a2) → W1.cell? ⟨w.heap.size, 2, none⟩ = some (.int .i64 a3) ∧ W1.cell? ⟨w.heap.size + 1, 2, none⟩ = some (.int .i64 a3) := by
    intro W1 h
    refine ⟨h.cell (by omega) (by omega) ?_, h.cell (by omega) (by omega) ?_⟩ <;> (rw [← hW]; simp [go_sem])
  clear hW
  refine (longFn a1 a1 n c h1 h1 hn s1 W (Nat.lt_of_lt_of_le hlt hB.size) (keepCell hB hlt hc0) (keepCell hB hlt hc1) (keepFrozen hB hlt hf0) (keepFrozen hB hlt hf1)).mono ?_
  rintro e W1 ⟨rfl, A1⟩
  obtain ⟨x1, y1⟩ := q1 W1 A1
  go_wp2_with fail
  refine (longFn a2 a2 _ c h2 h2 s1 s2 W1 (Nat.lt_of_lt_of_le hlt (Nat.le_trans hB.size A1.2.2.2.1)) A1.2.2.2.2.2.1 A1.2.2.2.2.2.2.1 A1.2.2.2.2.2.2.2.1 A1.2.2.2.2.2.2.2.2).mono ?_
  rintro e W2 ⟨rfl, A2⟩
  have A12 := A1.trans A2
  obtain ⟨x2, y2⟩ := q2 W2 A12
  go_wp2_with fail
  refine (longFn a3 a3 _ c h3 h3 s2 s3 W2 (Nat.lt_of_lt_of_le hlt (Nat.le_trans hB.size A12.2.2.2.1)) A12.2.2.2.2.2.1 A12.2.2.2.2.2.2.1 A12.2.2.2.2.2.2.2.1 A12.2.2.2.2.2.2.2.2).mono ?_
  rintro e W3 ⟨rfl, A3⟩
  have A := Adds.of_below hB (A12.trans A3)
  clear q1 q2
  go_wp2
  go_end0
  exact ⟨rfl, A⟩
def flong (a1 a2 a3 : Int) : Int := sat (root (mag a1 * mag a1 + mag a2 * mag a2 + mag a3 * mag a3).toNat : Nat)
theorem sq_u128 {a : Int} (h : I64 a) : 0 ≤ mag a * mag a ∧ mag a * mag a ≤ 85070591730234615865843651857942052864 := by
  have h0 := mag_nonneg a; have h1 := mag_le h
  refine ⟨Int.mul_nonneg h0 h0, ?_⟩
  have : mag a * mag a ≤ 9223372036854775808 * 9223372036854775808 := Int.mul_le_mul h1 h1 h0 (by omega)
  omega
theorem u128_0 : U128 0 := ⟨by omega, by omega⟩
theorem long_facts {a1 a2 a3 : Int} (h1 : I64 a1) (h2 : I64 a2) (h3 : I64 a3) : U128 (0 + mag a1 * mag a1) ∧ U128 (0 + mag a1 * mag a1 + mag a2 * mag a2) ∧ U128 (0 + mag a1 * mag a1 + mag a2 * mag a2 + mag a3 * mag a3) := by
  have q1 := sq_u128 h1; have q2 := sq_u128 h2; have q3 := sq_u128 h3
  exact ⟨⟨by omega, by omega⟩, ⟨by omega, by omega⟩, ⟨by omega, by omega⟩⟩
theorem root_u64 {n : Int} (h : U128 n) : U64 ((root n.toNat : Nat) : Int) := by
  have k := (root_spec (n := n.toNat) (by have := h.hi; omega)).2.2
  exact ⟨by omega, by omega⟩
theorem long_fin (a1 a2 a3 : Int) : numb ((root (0 + mag a1 * mag a1 + mag a2 * mag a2 + mag a3 * mag a3).toNat : Nat) : Int) false = flong a1 a2 a3 := by
  unfold flong; rw [numb_f, Int.zero_add]
set_option maxHeartbeats 400000 in
theorem fixLong (a1 a2 a3 : Int) (h1 : I64 a1) (h2 : I64 a2) (h3 : I64 a3) (w : World) :
    Calls Try.prog 35 #[.agg #[.int .i64 a1, .int .i64 a2, .int .i64 a3]] w fun e w' => e = .returned (.int .i64 (flong a1 a2 a3)) ∧ Below w.heap.size w w' := by
  obtain ⟨s1, s2, s3⟩ := long_facts h1 h2 h3
  go_enter Try.func35, Try.ntmps35
  go_wp2_with fail
  refine (alongLong a1 a2 a3 0 (w.heap.size + 1) h1 h2 h3 u128_0 s1 s2 s3 _ (by simp) (by simp [go_sem, hi64]) (by simp [go_sem, lo64]) (by simp [go_sem]) (by simp [go_sem])).mono ?_
  rintro e W ⟨rfl, A⟩
  have hb : Below w.heap.size w W := Below.trans (((Below.refl _ _).alloc (Nat.le_refl _) _).alloc (by simp) _) (A.below (by omega) (by simp; omega))
  obtain ⟨_, _, _, hz, _, c0, c1, _, _⟩ := A
  clear hz
  generalize hN : 0 + mag a1 * mag a1 + mag a2 * mag a2 + mag a3 * mag a3 = N at *
  have HN : Hid _ := hN
  clear hN
  go_wp2_with fail
  refine (fixRoot _ _ (hi64_u64 s3) (lo64_u64 _) _).mono ?_
  rintro e W2 ⟨rfl, b2⟩
  rw [join64]
  go_wp2_with fail
  refine (fixNumber _ _ _ ⟨by omega, by omega⟩ (root_u64 s3) _).mono ?_
  rintro e W3 ⟨rfl, b3⟩
  go_wp2
  go_ret
  have hf := long_fin a1 a2 a3
  rw [HN.out] at hf
  exact ⟨ret_intF hf, btransF (btransF hb b2) b3⟩
end Go.Proofs.Ythcmcjklhcfenaa
