/- Layer 11 (walk): whole players in regions that draw. -/
import Derived.Test.YtjjdclckkhddbaaWlA
namespace Go.Proofs.Ytjjdclckkhddbaa
open Go.RowKit
set_option linter.unusedVariables false
set_option linter.unusedSimpArgs false

theorem yields_rowP {ops : Array Oper} {S : World → Prop} {o : Oper} {a : Act} {x : Operand} {b : Nat} {p : Pl} (hw : Region.wanted o (yielded ops a.tmps) = true) (ho : o.op = .load 30 x) (hx : a.eval x = .pointer (some ⟨b, 0, none⟩)) (hS : ∀ w, S w → PlAt w b p) : YieldsIf Try.prog ops S o (.agg #[.int .i64 p.id, .int .i64 p.px, .int .i64 p.py, .int .i64 p.pz, .int .i64 p.vx, .int .i64 p.vy, .int .i64 p.vz, .bool p.gr, .int .i64 p.he, .int .i64 p.ar, .int .i64 p.sc, .int .i64 p.a0, .int .i64 p.a1, .int .i64 p.wa, .int .i64 p.de]) a := by
  refine .inl ⟨hw, fun w h => ?_⟩
  unfold execOp
  simp only [ho, hx, Instr.loadAt, Instr.sureAddr, Sem.run_bind, Sem.run_pure, Result.andThen_ok, run_loadVar_row w b 30 30 _ (0, 0) _ (hS w h).obj Try.underlying30 rfl info_pl]
theorem wp_stP {o : Oper} {a : Act} {w : World} {K : Act → World → Prop} {Q : Exit → Act → World → Prop} (x y : Operand) (ho : o.op = .store 30 x y) (b : Nat) (p q : Pl) (hx : a.eval x = .pointer (some ⟨b, 0, none⟩)) (hy : a.eval y = .agg #[.int .i64 q.id, .int .i64 q.px, .int .i64 q.py, .int .i64 q.pz, .int .i64 q.vx, .int .i64 q.vy, .int .i64 q.vz, .bool q.gr, .int .i64 q.he, .int .i64 q.ar, .int .i64 q.sc, .int .i64 q.a0, .int .i64 q.a1, .int .i64 q.wa, .int .i64 q.de]) (hP : PlAt w b p)
    (h : ∀ V, PlAt V b q → Fr (fun k => k = b) w V → K (a.put o.dst undef) V) : o.wp Try.prog a w K Q :=
  wp_store_row 30 x y ho b _ hx hy 30 _ hP.obj info_pl rfl (by simp [Value.oneCell']) (h _ ⟨setRow_heap' _ _ _ _ _ _ hP.obj⟩ (setRow_fr _ _ _))
end Go.Proofs.Ytjjdclckkhddbaa
