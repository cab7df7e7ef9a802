/- Layer 9 (grid): the walk of the law GridAts. -/
import Derived.Test.YtfcaekboonnmaaaGrS
namespace Go.Proofs.Ytfcaekboonnmaaa
open Go.RowKit
set_option linter.unusedVariables false
set_option linter.unusedSimpArgs false
attribute [local go_sem ↓] Go.wp_at_zero Go.wp_at_succ

theorem ifmax (x y : Int) : (if y > x then y else x) = max x y := by split <;> omega
theorem ifmin (x y : Int) : (if y < x then y else x) = min x y := by split <;> omega
theorem ifmax' (x y : Int) : (if x < y then y else x) = max x y := by split <;> omega
theorem max3 {a b c : Int} (ts : Array TypeId) (t : TypeId) (W : World) : (Builtin.max_ ts t #[.int .i64 a, .int .i64 b, .int .i64 c]).run Try.prog W = .ok (.int .i64 (max (max a b) c)) W := by
  simp [Builtin.max_, Builtin.max2, ifmax, ifmax']
theorem min3 {a b c : Int} (ts : Array TypeId) (t : TypeId) (W : World) : (Builtin.min_ ts t #[.int .i64 a, .int .i64 b, .int .i64 c]).run Try.prog W = .ok (.int .i64 (min (min a b) c)) W := by
  simp [Builtin.min_, Builtin.min2, ifmin]
theorem max6 {a b c d e f : Int} (ts : Array TypeId) (t : TypeId) (W : World) : (Builtin.max_ ts t #[.int .i64 a, .int .i64 b, .int .i64 c, .int .i64 d, .int .i64 e, .int .i64 f]).run Try.prog W = .ok (.int .i64 (max (max (max (max (max a b) c) d) e) f)) W := by
  simp [Builtin.max_, Builtin.max2, ifmax, ifmax']
theorem min6 {a b c d e f : Int} (ts : Array TypeId) (t : TypeId) (W : World) : (Builtin.min_ ts t #[.int .i64 a, .int .i64 b, .int .i64 c, .int .i64 d, .int .i64 e, .int .i64 f]).run Try.prog W = .ok (.int .i64 (min (min (min (min (min a b) c) d) e) f)) W := by
  simp [Builtin.min_, Builtin.min2, ifmin]
theorem max2 {a b : Int} (ts : Array TypeId) (t : TypeId) (W : World) : (Builtin.max_ ts t #[.int .i64 a, .int .i64 b]).run Try.prog W = .ok (.int .i64 (max a b)) W := by
  simp [Builtin.max_, Builtin.max2, ifmax, ifmax']
theorem min2 {a b : Int} (ts : Array TypeId) (t : TypeId) (W : World) : (Builtin.min_ ts t #[.int .i64 a, .int .i64 b]).run Try.prog W = .ok (.int .i64 (min a b)) W := by
  simp [Builtin.min_, Builtin.min2, ifmin]
theorem keepBox {w w' : World} (hb : Below w.heap.size w w') {b o : Nat} {v : Value} (h : w.cell? ⟨b, o, none⟩ = some v) : w'.cell? ⟨b, o, none⟩ = some v :=
  keepCell hb (by have := World.block_lt_of_cell? _ _ h; simpa using this) h
set_option maxRecDepth 100000 in
set_option maxHeartbeats 4000000 in
theorem gridAts_walk (a1 a2 a3 : Int) (n : Int) (w : World) (ha1 : I64 a1) (ha2 : I64 a2) (ha3 : I64 a3) (hn : -32768 ≤ n ∧ n ≤ 32767) :
    Calls Try.prog 11 #[.agg #[.int .i64 a1, .int .i64 a2, .int .i64 a3], .int .i16 n] w fun e w' => e = .returned (.bool true) ∧ Below w.heap.size w w' := by
  have hsh := lawShown
  obtain ⟨n0, n1⟩ := hn
  have l1 := ha1.lo; have l2 := ha1.hi; have l3 := ha2.lo; have l4 := ha2.hi; have l5 := ha3.lo; have l6 := ha3.hi
  have hx := fun ts t W => max3 (a := a1) (b := a2) (c := a3) ts t W
  have hn := fun ts t W => min3 (a := a1) (b := a2) (c := a3) ts t W
  obtain ⟨p, hp⟩ : ∃ p, max (max a1 a2) a3 = p := ⟨_, rfl⟩
  obtain ⟨q, hq⟩ : ∃ q, min (min a1 a2) a3 = q := ⟨_, rfl⟩
  rw [hp] at hx
  rw [hq] at hn
  have HP := hid hp; have HQ := hid hq
  clear hp hq
  go_enter Try.func11, Try.ntmps11
  go_wp2_with fail
  refine (hsh _).mono ?_; rintro e W1 ⟨rfl, q1⟩
  obtain ⟨c0, c1, c2⟩ := box3 q1
  have B1 : Below w.heap.size w W1 := ((Below.refl _ _).alloc (Nat.le_refl _) _).trans (q1.mono (by simp))
  clear q1 hsh
  go_wp2_with fail
  refine (gridAt a1 a2 a3 ha1 ha2 ha3 _).mono ?_; rintro e W2 ⟨rfl, q2⟩
  have d0 := keepBox q2 c0; have d1 := keepBox q2 c1; have d2 := keepBox q2 c2
  have B2 := btrans B1 q2
  clear q2 B1 c0 c1 c2
  by_cases hp1 : 1152921504606846976 < p
  · go_wp2_with (first | (go_at_call 26; refine (lawLies _ _ (by assumption) rfl _).mono ?_; rintro e w' ⟨rfl, rfl⟩))
    go_ret
    exact ⟨rfl, B2⟩
  · by_cases hq1 : q < -1152921504606846976
    · go_wp2_with (first | (go_at_call 26; refine (lawLies _ _ (by assumption) rfl _).mono ?_; rintro e w' ⟨rfl, rfl⟩))
      go_ret
      exact ⟨rfl, B2⟩
    · have hb : (-1152921504606846976 ≤ a1 ∧ a1 ≤ 1152921504606846976) ∧ (-1152921504606846976 ≤ a2 ∧ a2 ≤ 1152921504606846976) ∧ (-1152921504606846976 ≤ a3 ∧ a3 ≤ 1152921504606846976) := by
        have := HP.out; have := HQ.out; omega
      obtain ⟨⟨b1, b2⟩, ⟨b3, b4⟩, ⟨b5, b6⟩⟩ := hb
      have e1 : (a1 + n * 65536) / 65536 = a1 / 65536 + n := by omega
      have e2 : (a2 + n * 65536) / 65536 = a2 / 65536 + n := by omega
      have e3 : (a3 + n * 65536) / 65536 = a3 / 65536 + n := by omega
      have hat := fun V => gridAt (a1 + n * 65536) (a2 + n * 65536) (a3 + n * 65536) ⟨by omega, by omega⟩ ⟨by omega, by omega⟩ ⟨by omega, by omega⟩ V
      rw [e1, e2, e3] at hat
      clear e1 e2 e3
      go_wp2_with (first | (go_at_call 26; refine (lawLies _ _ (by assumption) rfl _).mono ?_; rintro e w' ⟨rfl, rfl⟩))
      refine (hat _).mono ?_; rintro e W3 ⟨rfl, q3⟩
      have B3 := btrans B2 q3
      go_wp2
      go_ret
      exact ⟨rfl, B3⟩
end Go.Proofs.Ytfcaekboonnmaaa
