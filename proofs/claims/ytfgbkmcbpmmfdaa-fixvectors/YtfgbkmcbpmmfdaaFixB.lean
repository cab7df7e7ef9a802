/- Layer 1 (fix): Mul, root, Sqrt. -/
import Derived.Test.YtfgbkmcbpmmfdaaFixA
import Derived.Deep.RegionHeld3
import Derived.Deep.DrawnRows
import Derived.LoopTactic
namespace Go.Proofs.Ytfgbkmcbpmmfdaa
open Go.RowKit
set_option linter.unusedVariables false
attribute [local go_sem ↓] Go.wp_at_zero Go.wp_at_succ

theorem fixMul (a b : Int) (ha : I64 a) (hb : I64 b) (w : World) :
    Calls Try.prog 22 #[.int .i64 a, .int .i64 b] w fun e w' => e = .returned (.int .i64 (fmul a b)) ∧ Below w.heap.size w w' := by
  have hp := mul_u128 (mag_u64 ha) (mag_u64 hb)
  have hw : U128 (mag a * mag b / 65536) := by obtain ⟨_, _⟩ := hp; constructor <;> omega
  go_enter Try.func22, Try.ntmps22
  go_wp2_with fail
  refine (fixSize a ha _).mono ?_; rintro e w' ⟨rfl, rfl⟩
  go_wp2_with fail
  refine (fixSize b hb _).mono ?_; rintro e w' ⟨rfl, rfl⟩
  go_wp2_with fail
  refine (fixProduct _ _ (mag_u64 ha) (mag_u64 hb) _).mono ?_; rintro e w1 ⟨rfl, b1⟩
  go_wp2_with fail
  refine (fixWhole _ _ (hi64_u64 hp) (lo64_u64 _) _).mono ?_; rintro e w2 ⟨rfl, b2⟩
  rw [join64]
  go_wp2_with fail
  refine (fixApart a b _).mono ?_; rintro e w' ⟨rfl, rfl⟩
  go_wp2_with fail
  refine (fixNumber _ _ _ (hi64_u64 hw) (lo64_u64 _) _).mono ?_; rintro e w3 ⟨rfl, b3⟩
  rw [join64]
  go_wp2
  go_ret
  exact ⟨rfl, btrans (btrans b1 b2) b3⟩

theorem fixGreaterN (n h l : Int) (hn : U128 n) (hh : U64 h) (hl : U64 l) (g : Bool) (hg : Hid (g = decide (h * 18446744073709551616 + l < n))) (w : World) :
    Calls Try.prog 60 #[.agg #[.int .u64 (hi64 n), .int .u64 (lo64 n)], .agg #[.int .u64 h, .int .u64 l]] w fun e w' => e = .returned (.bool g) ∧ Below w.heap.size w w' := by
  refine (fixGreater _ _ h l (hi64_u64 hn) (lo64_u64 n) hh hl w).mono fun e w' ⟨he, hb⟩ => ⟨he.trans (ret_bool ?_), hb⟩
  rw [join64]; exact hg.out.symm

/-- A box of two cells reads as it did, and nothing older has turned. -/
theorem keep2 {w W w1 : World} {x y : Value} (hb : Below W.heap.size W w1) (h : w.heap.size < W.heap.size ∧ W.cell? ⟨w.heap.size, 0, none⟩ = some x ∧ W.cell? ⟨w.heap.size, 1, none⟩ = some y ∧ Below w.heap.size w W) :
    w.heap.size < w1.heap.size ∧ w1.cell? ⟨w.heap.size, 0, none⟩ = some x ∧ w1.cell? ⟨w.heap.size, 1, none⟩ = some y ∧ Below w.heap.size w w1 :=
  ⟨Nat.lt_of_lt_of_le h.1 hb.size, (hb.cell (p := ⟨w.heap.size, 0, none⟩) h.1).trans h.2.1, (hb.cell (p := ⟨w.heap.size, 1, none⟩) h.1).trans h.2.2.1, h.2.2.2.trans (hb.mono (Nat.le_of_lt h.1))⟩

theorem drew2 {w W : World} {x y : Value} (h : w.heap.size < W.heap.size ∧ W.cell? ⟨w.heap.size, 0, none⟩ = some x ∧ W.cell? ⟨w.heap.size, 1, none⟩ = some y ∧ Below w.heap.size w W) :
    w.heap.size < W.drew.heap.size ∧ W.drew.cell? ⟨w.heap.size, 0, none⟩ = some x ∧ W.drew.cell? ⟨w.heap.size, 1, none⟩ = some y ∧ Below w.heap.size w W.drew :=
  ⟨h.1, h.2.1, h.2.2.1, h.2.2.2.drew⟩

set_option maxHeartbeats 1000000 in
theorem fixRoot (h l : Int) (hh : U64 h) (hl : U64 l) (w : World) :
    Calls Try.prog 54 #[.agg #[.int .u64 h, .int .u64 l]] w fun e w' => e = .returned (.int .u64 (root (h * 18446744073709551616 + l).toNat : Nat)) ∧ Below w.heap.size w w' := by
  obtain ⟨N, hN⟩ : ∃ N : Nat, h * 18446744073709551616 + l = (N : Int) := ⟨(h * 18446744073709551616 + l).toNat, by have := (u128_join hh hl).lo; omega⟩
  have HN : Hid (h * 18446744073709551616 + l = (N : Int)) := hN
  rw [hN, Int.toNat_natCast]
  clear hN
  go_enter Try.func54, Try.ntmps54
  go_wp2
  go_loopw [3, 4] (fun n b wr => ∃ acc p : Nat, n = .int .u64 acc ∧ b = .int .u64 p ∧ RootInv N acc p ∧ w.heap.size < wr.heap.size ∧ wr.cell? ⟨w.heap.size, 0, none⟩ = some (.int .u64 h) ∧ wr.cell? ⟨w.heap.size, 1, none⟩ = some (.int .u64 l) ∧ Below w.heap.size w wr) (fun _ b _ => (intOf b).toNat)
  case atStart => exact ⟨0, 9223372036854775808, rfl, rfl, RootInv.start N, by simp, by simp [go_sem], by simp [go_sem], (Below.refl _ _).alloc (Nat.le_refl _) _⟩
  case round =>
    obtain ⟨acc, p, rfl, rfl, inv, hcell⟩ := hrel
    by_cases hp : 0 < p
    · have hpi : (0 : Int) < (p : Int) := by omega
      obtain ⟨q, hq⟩ : ∃ q, acc + p = q := ⟨_, rfl⟩
      have HQ : Hid (acc + p = q) := hq
      have hlt := inv.lt hp
      have hor : bits BinOp.or IntKind.u64 (acc : Int) (p : Int) = (q : Int) := by
        rw [bits_or_u64_nat _ _ (by omega) (by omega), inv.or hp, hq]
      have hqu : U64 (q : Int) := ⟨by omega, by omega⟩
      have st := inv.step hp
      rw [hq] at st
      clear hq
      by_cases hle : q * q ≤ N
      · rw [if_pos hle] at st
        have HG : Hid (false = decide (h * 18446744073709551616 + l < (q : Int) * q)) := by
          rw [HN.out]; exact (decide_eq_false (by have : ((q * q : Nat) : Int) ≤ N := by omega
                                                  rw [Int.natCast_mul] at this; omega)).symm
        clear hle
        go_wp2
        have hcd := drew2 hcell
        go_region_held3 (fun w' => w.heap.size < w'.heap.size ∧ w'.cell? ⟨w.heap.size, 0, none⟩ = some (.int .u64 h) ∧ w'.cell? ⟨w.heap.size, 1, none⟩ = some (.int .u64 l) ∧ Below w.heap.size w w') (first | assumption | exact keep2 (by assumption) (by assumption))
          (first
            | (go_at_call 44; refine (fixProduct _ _ hqu hqu _).mono ?_; rintro e w1 ⟨rfl, b1⟩)
            | (go_at_call 60; refine (fixGreaterN _ h l (mul_u128 hqu hqu) hh hl false HG _).mono ?_; rintro e w2 ⟨rfl, b2⟩))
        go_wp2
        exact ⟨⟨q, p / 2, rfl, by go_num, st, by assumption⟩, by simp [intOf]; omega⟩
      · rw [if_neg hle] at st
        have HG : Hid (true = decide (h * 18446744073709551616 + l < (q : Int) * q)) := by
          rw [HN.out]; exact (decide_eq_true (by have : (N : Int) < ((q * q : Nat) : Int) := by omega
                                                 rw [Int.natCast_mul] at this; omega)).symm
        clear hle
        go_wp2
        have hcd := drew2 hcell
        go_region_held3 (fun w' => w.heap.size < w'.heap.size ∧ w'.cell? ⟨w.heap.size, 0, none⟩ = some (.int .u64 h) ∧ w'.cell? ⟨w.heap.size, 1, none⟩ = some (.int .u64 l) ∧ Below w.heap.size w w') (first | assumption | exact keep2 (by assumption) (by assumption))
          (first
            | (go_at_call 44; refine (fixProduct _ _ hqu hqu _).mono ?_; rintro e w1 ⟨rfl, b1⟩)
            | (go_at_call 60; refine (fixGreaterN _ h l (mul_u128 hqu hqu) hh hl true HG _).mono ?_; rintro e w2 ⟨rfl, b2⟩))
        go_wp2
        exact ⟨⟨acc, p / 2, rfl, by go_num, st, by assumption⟩, by simp [intOf]; omega⟩
    · obtain rfl : p = 0 := by omega
      have hd := inv.done
      have hbel := hcell.2.2.2
      clear inv
      subst hd
      go_wp2
      go_ret
      exact ⟨rfl, hbel⟩

theorem u64_one16 : U64 65536 := ⟨by omega, by omega⟩
theorem fixSqrt (a : Int) (ha : I64 a) (w : World) :
    Calls Try.prog 26 #[.int .i64 a] w fun e w' => e = .returned (.int .i64 (fsqrt a)) ∧ Below w.heap.size w w' := by
  by_cases h : a < 0
  · go_enter Try.func26, Try.ntmps26
    go_wp2
    go_ret
    exact ⟨ret_int (by unfold fsqrt; rw [if_pos h]), Below.refl _ _⟩
  · have e0 : mag a = a := by unfold mag; rw [if_neg h]
    have hlt : (root (a * 65536).toNat : Int) < 18446744073709551616 := by
      have := (root_spec (n := (a * 65536).toNat) (by have := ha.hi; omega)).2.2; omega
    have hr : U64 (root (a * 65536).toNat : Int) := ⟨by omega, hlt⟩
    have hs : numb (0 * 18446744073709551616 + (root (a * 65536).toNat : Int)) false = fsqrt a := by
      unfold fsqrt; rw [if_neg h, numb_f, Int.zero_mul, Int.zero_add]
      refine sat_id ⟨by omega, ?_⟩
      have k := (root_spec (n := (a * 65536).toNat) (by have := ha.hi; omega)).1
      have : root (a * 65536).toNat < 777472127994 := sq_lt (by have := ha.hi; omega)
      omega
    rw [Int.zero_mul, Int.zero_add] at hs
    have HS : Hid _ := hs
    clear hs hlt
    go_enter Try.func26, Try.ntmps26
    go_wp2_with fail
    refine (fixSize a ha _).mono ?_; rintro e w' ⟨rfl, rfl⟩
    rw [e0]
    have hu : U64 a := ⟨by omega, by have := ha.hi; omega⟩
    go_wp2_with fail
    refine (fixProduct _ _ hu u64_one16 _).mono ?_; rintro e w1 ⟨rfl, b1⟩
    go_wp2_with fail
    refine (fixRoot _ _ (hi64_u64 (mul_u128 hu u64_one16)) (lo64_u64 _) _).mono ?_; rintro e w2 ⟨rfl, b2⟩
    rw [join64]
    go_wp2_with fail
    refine (fixNumber _ _ _ ⟨by omega, by omega⟩ hr _).mono ?_; rintro e w3 ⟨rfl, b3⟩
    go_wp2
    go_ret
    exact ⟨ret_int HS.out, btrans (btrans b1 b2) b3⟩
end Go.Proofs.Ytfgbkmcbpmmfdaa
