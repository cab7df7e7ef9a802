/- Layer 9 (grid): the walk of the law GridAts. -/
import Derived.Test.YthcmcjklhcfenaaGrS
namespace Go.Proofs.Ythcmcjklhcfenaa
open Go.RowKit
set_option linter.unusedVariables false
set_option linter.unusedSimpArgs false
attribute [local go_sem ↓] Go.wp_at_zero Go.wp_at_succ

theorem ifmax (x y : Int) : (if y > x then y else x) = max x y := by split <;> omega
theorem ifmin (x y : Int) : (if y < x then y else x) = min x y := by split <;> omega
theorem ifmax' (x y : Int) : (if x < y then y else x) = max x y := by split <;> omega
theorem max3 {a b c : Int} (ts : Array TypeId) (t : TypeId) (W : World) : (Builtin.max_ ts t #[.int .i64 a, .int .i64 b, .int .i64 c]).run Try.prog W = .ok (.int .i64 (max (max a b) c)) W := by
  simp [Builtin.max_, Builtin.max2, ifmax, ifmax']
theorem min3 {a b c : Int} (ts : Array TypeId) (t : TypeId) (W : World) : (Builtin.min_ ts t #[.int .i64 a, .int .i64 b, .int .i64 c]).run Try.prog W = .ok (.int .i64 (min (min a b) c)) W := by
  simp [Builtin.min_, Builtin.min2, ifmin]
theorem max6 {a b c d e f : Int} (ts : Array TypeId) (t : TypeId) (W : World) : (Builtin.max_ ts t #[.int .i64 a, .int .i64 b, .int .i64 c, .int .i64 d, .int .i64 e, .int .i64 f]).run Try.prog W = .ok (.int .i64 (max (max (max (max (max a b) c) d) e) f)) W := by
  simp [Builtin.max_, Builtin.max2, ifmax, ifmax']
theorem min6 {a b c d e f : Int} (ts : Array TypeId) (t : TypeId) (W : World) : (Builtin.min_ ts t #[.int .i64 a, .int .i64 b, .int .i64 c, .int .i64 d, .int .i64 e, .int .i64 f]).run Try.prog W = .ok (.int .i64 (min (min (min (min (min a b) c) d) e) f)) W := by
  simp [Builtin.min_, Builtin.min2, ifmin]
theorem max2 {a b : Int} (ts : Array TypeId) (t : TypeId) (W : World) : (Builtin.max_ ts t #[.int .i64 a, .int .i64 b]).run Try.prog W = .ok (.int .i64 (max a b)) W := by
  simp [Builtin.max_, Builtin.max2, ifmax, ifmax']
theorem min2 {a b : Int} (ts : Array TypeId) (t : TypeId) (W : World) : (Builtin.min_ ts t #[.int .i64 a, .int .i64 b]).run Try.prog W = .ok (.int .i64 (min a b)) W := by
  simp [Builtin.min_, Builtin.min2, ifmin]
theorem keepBox {w w' : World} (hb : Below w.heap.size w w') {b o : Nat} {v : Value} (h : w.cell? ⟨b, o, none⟩ = some v) : w'.cell? ⟨b, o, none⟩ = some v :=
  keepCell hb (by have := World.block_lt_of_cell? _ _ h; simpa using this) h
end Go.Proofs.Ythcmcjklhcfenaa
