/- Layer 9 (grid): the laws' own helpers: open, at, lies. -/
import Derived.Test.YthcmcjklhcfenaaGrI
import Derived.Test.YthcmcjklhcfenaaGrK
import Derived.Deep.OwnRows
namespace Go.Proofs.Ythcmcjklhcfenaa
open Go.RowKit
set_option linter.unusedVariables false
set_option linter.unusedSimpArgs false
attribute [local go_sem ↓] Go.wp_at_zero Go.wp_at_succ

theorem info_bool : (Try.prog.info? 4).map (fun i => (i.zero, i.size, i.bytes)) = some (some (.bool false), 1, 1) := by kernel_rfl
theorem min_is {n k N : Nat} (h : min n k = N) (ts : Array TypeId) (t : TypeId) (W : World) : (Builtin.min_ ts t #[.int .i64 (n : Int), .int .i64 (k : Int)]).run Try.prog W = .ok (.int .i64 (N : Int)) W := by
  rw [run_min_int2]; split <;> (congr 2; omega)
end Go.Proofs.Ythcmcjklhcfenaa
