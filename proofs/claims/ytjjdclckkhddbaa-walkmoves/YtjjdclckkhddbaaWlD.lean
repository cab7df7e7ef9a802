/- Layer 11 (walk): players compared in regions that draw. -/
import Derived.Test.YtjjdclckkhddbaaWlC
import Derived.Test.YtjjdclckkhddbaaWkG
namespace Go.Proofs.Ytjjdclckkhddbaa
open Go.RowKit
set_option linter.unusedVariables false
set_option linter.unusedSimpArgs false

theorem yields_eqP {ops : Array Oper} {S : World → Prop} {o : Oper} {a : Act} {x y : Operand} {r : TypeId} {p : Pl} (hw : Region.wanted o (yielded ops a.tmps) = true) (ho : o.op = .binOp .eql 30 x y r) (hx : a.eval x = .agg #[.int .i64 p.id, .int .i64 p.px, .int .i64 p.py, .int .i64 p.pz, .int .i64 p.vx, .int .i64 p.vy, .int .i64 p.vz, .bool p.gr, .int .i64 p.he, .int .i64 p.ar, .int .i64 p.sc, .int .i64 p.a0, .int .i64 p.a1, .int .i64 p.wa, .int .i64 p.de]) (hy : a.eval y = .agg #[.int .i64 p.id, .int .i64 p.px, .int .i64 p.py, .int .i64 p.pz, .int .i64 p.vx, .int .i64 p.vy, .int .i64 p.vz, .bool p.gr, .int .i64 p.he, .int .i64 p.ar, .int .i64 p.sc, .int .i64 p.a0, .int .i64 p.a1, .int .i64 p.wa, .int .i64 p.de]) : YieldsIf Try.prog ops S o (.bool true) a := by
  refine .inl ⟨hw, fun w h => ?_⟩
  unfold execOp
  simp only [ho, hx, hy, Sem.run_bind, Sem.run_pure, Result.andThen_ok, run_guardP, run_eqP]
end Go.Proofs.Ytjjdclckkhddbaa
