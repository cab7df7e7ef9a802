/- Layer 12 (shot): a box of a shot; whole shots loaded, stored, compared; axes, solid; the small functions of its laws. -/
import Derived.Test.YthcmcjklhcfenaaWkA
import Derived.Test.YthcmcjklhcfenaaShM
import Derived.Deep.WholeRow
import Derived.DeepKeys
namespace Go.Proofs.Ythcmcjklhcfenaa
open Go.RowKit
set_option linter.unusedVariables false
set_option linter.unusedSimpArgs false
attribute [local go_sem ↓] Go.wp_at_zero Go.wp_at_succ

/-- A box of api.Shot. -/
structure ShAt (w : World) (b : Nat) (s : Sh) : Prop where
  obj : w.heap[b]? = some (.cells #[.int .i64 s.id, .int .i64 s.ow, .int .i64 s.kd, .int .i64 s.px, .int .i64 s.py, .int .i64 s.pz, .int .i64 s.vx, .int .i64 s.vy, .int .i64 s.vz, .int .i64 s.fu, .bool s.rs] 33 (0, 0))
theorem ShAt.lt {w : World} {b : Nat} {s : Sh} (h : ShAt w b s) : b < w.heap.size := (Array.getElem?_eq_some_iff.1 h.obj).1
theorem ShAt.cells {w : World} {b : Nat} {s : Sh} (h : ShAt w b s) : w.cell? ⟨b, 0, none⟩ = some (.int .i64 s.id) ∧ w.cell? ⟨b, 1, none⟩ = some (.int .i64 s.ow) ∧ w.cell? ⟨b, 2, none⟩ = some (.int .i64 s.kd) ∧ w.cell? ⟨b, 3, none⟩ = some (.int .i64 s.px) ∧ w.cell? ⟨b, 4, none⟩ = some (.int .i64 s.py) ∧ w.cell? ⟨b, 5, none⟩ = some (.int .i64 s.pz) ∧ w.cell? ⟨b, 6, none⟩ = some (.int .i64 s.vx) ∧ w.cell? ⟨b, 7, none⟩ = some (.int .i64 s.vy) ∧ w.cell? ⟨b, 8, none⟩ = some (.int .i64 s.vz) ∧ w.cell? ⟨b, 9, none⟩ = some (.int .i64 s.fu) ∧ w.cell? ⟨b, 10, none⟩ = some (.bool s.rs) :=
  ⟨cell_of_row w b 0 _ 33 (0, 0) h.obj, cell_of_row w b 1 _ 33 (0, 0) h.obj, cell_of_row w b 2 _ 33 (0, 0) h.obj, cell_of_row w b 3 _ 33 (0, 0) h.obj, cell_of_row w b 4 _ 33 (0, 0) h.obj, cell_of_row w b 5 _ 33 (0, 0) h.obj, cell_of_row w b 6 _ 33 (0, 0) h.obj, cell_of_row w b 7 _ 33 (0, 0) h.obj, cell_of_row w b 8 _ 33 (0, 0) h.obj, cell_of_row w b 9 _ 33 (0, 0) h.obj, cell_of_row w b 10 _ 33 (0, 0) h.obj⟩
theorem ShAt.thaw {w : World} {b : Nat} {s : Sh} (h : ShAt w b s) : w.frozen? ⟨b, 0, none⟩ = false ∧ w.frozen? ⟨b, 1, none⟩ = false ∧ w.frozen? ⟨b, 2, none⟩ = false ∧ w.frozen? ⟨b, 3, none⟩ = false ∧ w.frozen? ⟨b, 4, none⟩ = false ∧ w.frozen? ⟨b, 5, none⟩ = false ∧ w.frozen? ⟨b, 6, none⟩ = false ∧ w.frozen? ⟨b, 7, none⟩ = false ∧ w.frozen? ⟨b, 8, none⟩ = false ∧ w.frozen? ⟨b, 9, none⟩ = false ∧ w.frozen? ⟨b, 10, none⟩ = false := by simp [World.frozen?, h.obj]
theorem ShAt.keep {w V : World} {b : Nat} {s : Sh} (h : ShAt w b s) (hb : Below w.heap.size w V) : ShAt V b s := ⟨by rw [hb.block b h.lt]; exact h.obj⟩
theorem ShAt.fr {w V : World} {b : Nat} {s : Sh} {S : Nat → Prop} (h : ShAt w b s) (hf : Fr S w V) (hs : ¬ S b) : ShAt V b s := ⟨by rw [hf.block b h.lt hs]; exact h.obj⟩
theorem ShAt.new (w : World) (s : Sh) : ShAt (w.alloc (.cells #[.int .i64 s.id, .int .i64 s.ow, .int .i64 s.kd, .int .i64 s.px, .int .i64 s.py, .int .i64 s.pz, .int .i64 s.vx, .int .i64 s.vy, .int .i64 s.vz, .int .i64 s.fu, .bool s.rs] 33)) w.heap.size s := ⟨heap_alloc_new w _⟩
theorem ShAt.new' (w : World) (s : Sh) {b : Nat} (hb : b = w.heap.size) : ShAt (w.alloc (.cells #[.int .i64 s.id, .int .i64 s.ow, .int .i64 s.kd, .int .i64 s.px, .int .i64 s.py, .int .i64 s.pz, .int .i64 s.vx, .int .i64 s.vy, .int .i64 s.vz, .int .i64 s.fu, .bool s.rs] 33)) b s := hb ▸ ShAt.new w s
theorem ShAt.alloc {w : World} {b : Nat} {s : Sh} (h : ShAt w b s) (o : Obj) : ShAt (w.alloc o) b s := ⟨by rw [Below.heap_alloc _ _ _ h.lt]; exact h.obj⟩
theorem ShAt.s0 {w : World} {b : Nat} {s : Sh} (h : ShAt w b s) (n : Int) : ShAt (w.setCell ⟨b, 0, none⟩ (.int .i64 n)) b { s with id := n } :=
  ⟨by have := heap_set_same (i := 0) h.obj (.int .i64 n); simpa only [List.setIfInBounds_toArray, List.set_cons_zero, List.set_cons_succ] using this⟩
theorem ShAt.s1 {w : World} {b : Nat} {s : Sh} (h : ShAt w b s) (n : Int) : ShAt (w.setCell ⟨b, 1, none⟩ (.int .i64 n)) b { s with ow := n } :=
  ⟨by have := heap_set_same (i := 1) h.obj (.int .i64 n); simpa only [List.setIfInBounds_toArray, List.set_cons_zero, List.set_cons_succ] using this⟩
theorem ShAt.s2 {w : World} {b : Nat} {s : Sh} (h : ShAt w b s) (n : Int) : ShAt (w.setCell ⟨b, 2, none⟩ (.int .i64 n)) b { s with kd := n } :=
  ⟨by have := heap_set_same (i := 2) h.obj (.int .i64 n); simpa only [List.setIfInBounds_toArray, List.set_cons_zero, List.set_cons_succ] using this⟩
theorem ShAt.s3 {w : World} {b : Nat} {s : Sh} (h : ShAt w b s) (n : Int) : ShAt (w.setCell ⟨b, 3, none⟩ (.int .i64 n)) b { s with px := n } :=
  ⟨by have := heap_set_same (i := 3) h.obj (.int .i64 n); simpa only [List.setIfInBounds_toArray, List.set_cons_zero, List.set_cons_succ] using this⟩
theorem ShAt.s4 {w : World} {b : Nat} {s : Sh} (h : ShAt w b s) (n : Int) : ShAt (w.setCell ⟨b, 4, none⟩ (.int .i64 n)) b { s with py := n } :=
  ⟨by have := heap_set_same (i := 4) h.obj (.int .i64 n); simpa only [List.setIfInBounds_toArray, List.set_cons_zero, List.set_cons_succ] using this⟩
theorem ShAt.s5 {w : World} {b : Nat} {s : Sh} (h : ShAt w b s) (n : Int) : ShAt (w.setCell ⟨b, 5, none⟩ (.int .i64 n)) b { s with pz := n } :=
  ⟨by have := heap_set_same (i := 5) h.obj (.int .i64 n); simpa only [List.setIfInBounds_toArray, List.set_cons_zero, List.set_cons_succ] using this⟩
theorem ShAt.s6 {w : World} {b : Nat} {s : Sh} (h : ShAt w b s) (n : Int) : ShAt (w.setCell ⟨b, 6, none⟩ (.int .i64 n)) b { s with vx := n } :=
  ⟨by have := heap_set_same (i := 6) h.obj (.int .i64 n); simpa only [List.setIfInBounds_toArray, List.set_cons_zero, List.set_cons_succ] using this⟩
theorem ShAt.s7 {w : World} {b : Nat} {s : Sh} (h : ShAt w b s) (n : Int) : ShAt (w.setCell ⟨b, 7, none⟩ (.int .i64 n)) b { s with vy := n } :=
  ⟨by have := heap_set_same (i := 7) h.obj (.int .i64 n); simpa only [List.setIfInBounds_toArray, List.set_cons_zero, List.set_cons_succ] using this⟩
theorem ShAt.s8 {w : World} {b : Nat} {s : Sh} (h : ShAt w b s) (n : Int) : ShAt (w.setCell ⟨b, 8, none⟩ (.int .i64 n)) b { s with vz := n } :=
  ⟨by have := heap_set_same (i := 8) h.obj (.int .i64 n); simpa only [List.setIfInBounds_toArray, List.set_cons_zero, List.set_cons_succ] using this⟩
theorem ShAt.s9 {w : World} {b : Nat} {s : Sh} (h : ShAt w b s) (n : Int) : ShAt (w.setCell ⟨b, 9, none⟩ (.int .i64 n)) b { s with fu := n } :=
  ⟨by have := heap_set_same (i := 9) h.obj (.int .i64 n); simpa only [List.setIfInBounds_toArray, List.set_cons_zero, List.set_cons_succ] using this⟩
theorem ShAt.s10 {w : World} {b : Nat} {s : Sh} (h : ShAt w b s) (n : Bool) : ShAt (w.setCell ⟨b, 10, none⟩ (.bool n)) b { s with rs := n } :=
  ⟨by have := heap_set_same (i := 10) h.obj (.bool n); simpa only [List.setIfInBounds_toArray, List.set_cons_zero, List.set_cons_succ] using this⟩
/-- A whole one stored. -/
theorem ShAt.all {w : World} {b : Nat} {s : Sh} (h : ShAt w b s) (q : Sh) : ShAt (((((((((((w.setCell ⟨b, 0, none⟩ (.int .i64 q.id)).setCell ⟨b, 1, none⟩ (.int .i64 q.ow)).setCell ⟨b, 2, none⟩ (.int .i64 q.kd)).setCell ⟨b, 3, none⟩ (.int .i64 q.px)).setCell ⟨b, 4, none⟩ (.int .i64 q.py)).setCell ⟨b, 5, none⟩ (.int .i64 q.pz)).setCell ⟨b, 6, none⟩ (.int .i64 q.vx)).setCell ⟨b, 7, none⟩ (.int .i64 q.vy)).setCell ⟨b, 8, none⟩ (.int .i64 q.vz)).setCell ⟨b, 9, none⟩ (.int .i64 q.fu)).setCell ⟨b, 10, none⟩ (.bool q.rs)) b q := (((((((((((h.s0 q.id).s1 q.ow).s2 q.kd).s3 q.px).s4 q.py).s5 q.pz).s6 q.vx).s7 q.vy).s8 q.vz).s9 q.fu).s10 q.rs)
theorem ShAt.allFr (w : World) (b : Nat) (q : Sh) : Fr (fun k => k = b) w (((((((((((w.setCell ⟨b, 0, none⟩ (.int .i64 q.id)).setCell ⟨b, 1, none⟩ (.int .i64 q.ow)).setCell ⟨b, 2, none⟩ (.int .i64 q.kd)).setCell ⟨b, 3, none⟩ (.int .i64 q.px)).setCell ⟨b, 4, none⟩ (.int .i64 q.py)).setCell ⟨b, 5, none⟩ (.int .i64 q.pz)).setCell ⟨b, 6, none⟩ (.int .i64 q.vx)).setCell ⟨b, 7, none⟩ (.int .i64 q.vy)).setCell ⟨b, 8, none⟩ (.int .i64 q.vz)).setCell ⟨b, 9, none⟩ (.int .i64 q.fu)).setCell ⟨b, 10, none⟩ (.bool q.rs)) := (((((((((((Fr.refl (fun k => k = b) w).setCell (p := ⟨b, 0, none⟩) rfl _).setCell (p := ⟨b, 1, none⟩) rfl _).setCell (p := ⟨b, 2, none⟩) rfl _).setCell (p := ⟨b, 3, none⟩) rfl _).setCell (p := ⟨b, 4, none⟩) rfl _).setCell (p := ⟨b, 5, none⟩) rfl _).setCell (p := ⟨b, 6, none⟩) rfl _).setCell (p := ⟨b, 7, none⟩) rfl _).setCell (p := ⟨b, 8, none⟩) rfl _).setCell (p := ⟨b, 9, none⟩) rfl _).setCell (p := ⟨b, 10, none⟩) rfl _
theorem ShAt.pos {w : World} {b : Nat} {s : Sh} (h : ShAt w b s) (x y z : Int) : ShAt (((w.setCell ⟨b, 3, none⟩ (.int .i64 x)).setCell ⟨b, 4, none⟩ (.int .i64 y)).setCell ⟨b, 5, none⟩ (.int .i64 z)) b { s with px := x, py := y, pz := z } := ((h.s3 x).s4 y).s5 z
theorem ShAt.vel {w : World} {b : Nat} {s : Sh} (h : ShAt w b s) (x y z : Int) : ShAt (((w.setCell ⟨b, 6, none⟩ (.int .i64 x)).setCell ⟨b, 7, none⟩ (.int .i64 y)).setCell ⟨b, 8, none⟩ (.int .i64 z)) b { s with vx := x, vy := y, vz := z } := ((h.s6 x).s7 y).s8 z
def noSh : Sh := ⟨0, 0, 0, 0, 0, 0, 0, 0, 0, 0, false⟩
theorem ShAt.ld {w : World} {b : Nat} {s : Sh} (h : ShAt w b s) : Sem.run Try.prog (loadCellsFrom ⟨b, 0, none⟩ 0 11 #[]) w = .ok #[.int .i64 s.id, .int .i64 s.ow, .int .i64 s.kd, .int .i64 s.px, .int .i64 s.py, .int .i64 s.pz, .int .i64 s.vx, .int .i64 s.vy, .int .i64 s.vz, .int .i64 s.fu, .bool s.rs] w := by
  have := run_loadCells_list (P := Try.prog) w ⟨b, 0, none⟩ [.int .i64 s.id, .int .i64 s.ow, .int .i64 s.kd, .int .i64 s.px, .int .i64 s.py, .int .i64 s.pz, .int .i64 s.vx, .int .i64 s.vy, .int .i64 s.vz, .int .i64 s.fu, .bool s.rs] (fun j v hv => by
    have hadd : (⟨b, 0, none⟩ : Addr).add j = ⟨b, j, none⟩ := by unfold Addr.add; split <;> simp_all
    rw [hadd, cell_of_row _ _ j _ 33 (0, 0) h.obj]
    simpa using hv)
  simpa [loadCells] using this
theorem info_sh : (Try.prog.info? 33).map (·.size) = some 11 := by kernel_rfl
theorem newSh (q : Sh) (w : World) : Sem.run Try.prog (storeCells ⟨w.heap.size, 0, none⟩ [.int .i64 q.id, .int .i64 q.ow, .int .i64 q.kd, .int .i64 q.px, .int .i64 q.py, .int .i64 q.pz, .int .i64 q.vx, .int .i64 q.vy, .int .i64 q.vz, .int .i64 q.fu, .bool q.rs] 0) (w.alloc (.cells #[.int .i64 0, .int .i64 0, .int .i64 0, .int .i64 0, .int .i64 0, .int .i64 0, .int .i64 0, .int .i64 0, .int .i64 0, .int .i64 0, .bool false] 33)) = .ok () (w.alloc (.cells #[.int .i64 q.id, .int .i64 q.ow, .int .i64 q.kd, .int .i64 q.px, .int .i64 q.py, .int .i64 q.pz, .int .i64 q.vx, .int .i64 q.vy, .int .i64 q.vz, .int .i64 q.fu, .bool q.rs] 33)) :=
  run_storeCells_new (P := Try.prog) w 33 #[.int .i64 0, .int .i64 0, .int .i64 0, .int .i64 0, .int .i64 0, .int .i64 0, .int .i64 0, .int .i64 0, .int .i64 0, .int .i64 0, .bool false] #[.int .i64 q.id, .int .i64 q.ow, .int .i64 q.kd, .int .i64 q.px, .int .i64 q.py, .int .i64 q.pz, .int .i64 q.vx, .int .i64 q.vy, .int .i64 q.vz, .int .i64 q.fu, .bool q.rs] info_sh rfl (by simp [Value.oneCell'])
theorem eqV (a b c d e f : Int) (W : World) : Sem.run Try.prog (Op.equalIn 10000 27 (.agg #[.int .i64 a, .int .i64 b, .int .i64 c]) (.agg #[.int .i64 d, .int .i64 e, .int .i64 f])) W = .ok (a == d && b == e && c == f) W := by
  go_simp
  by_cases h1 : a = d <;> by_cases h2 : b = e <;> by_cases h3 : c = f <;> simp [h1, h2, h3]
theorem eqSh_refl (p : Sh) (W : World) : Sem.run Try.prog (Op.equalIn 10000 33 (.agg #[.int .i64 p.id, .int .i64 p.ow, .int .i64 p.kd, .int .i64 p.px, .int .i64 p.py, .int .i64 p.pz, .int .i64 p.vx, .int .i64 p.vy, .int .i64 p.vz, .int .i64 p.fu, .bool p.rs]) (.agg #[.int .i64 p.id, .int .i64 p.ow, .int .i64 p.kd, .int .i64 p.px, .int .i64 p.py, .int .i64 p.pz, .int .i64 p.vx, .int .i64 p.vy, .int .i64 p.vz, .int .i64 p.fu, .bool p.rs])) W = .ok true W := by go_simp
section
variable {ops : Array Oper} {rest : List Oper} {o : Oper} {a : Act} {w : World} {Q : Exit → Act → World → Prop}
theorem wpList_wantedS (hw : Region.wanted o (yielded ops a.tmps) = true) (h : ∀ K : Act → World → Prop, (∀ a w, wpList Try.prog ops Q rest a w → K a w) → o.wp Try.prog a w K Q) : wpList Try.prog ops Q (o :: rest) a w :=
  wpList_step fun K hK => by rw [if_pos hw]; exact h K hK
/-- A whole shot is loaded. -/
theorem wpList_ldS (hw : Region.wanted o (yielded ops a.tmps) = true) (x : Operand) (ho : o.op = .load 33 x) (b : Nat) (p : Sh) (hx : a.eval x = .pointer (some ⟨b, 0, none⟩)) (hP : ShAt w b p)
    (h : wpList Try.prog ops Q rest (a.put o.dst (.agg #[.int .i64 p.id, .int .i64 p.ow, .int .i64 p.kd, .int .i64 p.px, .int .i64 p.py, .int .i64 p.pz, .int .i64 p.vx, .int .i64 p.vy, .int .i64 p.vz, .int .i64 p.fu, .bool p.rs])) w) : wpList Try.prog ops Q (o :: rest) a w :=
  wpList_wantedS hw fun _ hK => wp_load_row 33 x ho b hx 33 _ (0, 0) _ hP.obj Try.underlying33 rfl info_sh (hK _ _ h)
theorem setRow_heapS (w : World) (b : Nat) (cs old : Array Value) (t : TypeId) (fr : Nat × Nat) (h : w.heap[b]? = some (.cells old t fr)) : (w.setRow b cs).heap[b]? = some (.cells cs t fr) := by
  simp only [World.setRow]
  rw [Array.getElem?_modify, if_pos rfl, h]; rfl
theorem setRow_frS (w : World) (b : Nat) (cs : Array Value) : Fr (fun k => k = b) w (w.setRow b cs) := by
  refine ⟨rfl, rfl, rfl, ?_, fun k _ hk => ?_⟩
  · simp [World.setRow]
  · simp only [World.setRow]
    rw [Array.getElem?_modify, if_neg (fun e => hk e.symm)]
/-- A whole shot is stored. -/
theorem wpList_stS (hw : Region.wanted o (yielded ops a.tmps) = true) (x y : Operand) (ho : o.op = .store 33 x y) (b : Nat) (p q : Sh) (hx : a.eval x = .pointer (some ⟨b, 0, none⟩)) (hy : a.eval y = .agg #[.int .i64 q.id, .int .i64 q.ow, .int .i64 q.kd, .int .i64 q.px, .int .i64 q.py, .int .i64 q.pz, .int .i64 q.vx, .int .i64 q.vy, .int .i64 q.vz, .int .i64 q.fu, .bool q.rs]) (hP : ShAt w b p)
    (h : ∀ V, ShAt V b q → Fr (fun k => k = b) w V → wpList Try.prog ops Q rest (a.put o.dst undef) V) : wpList Try.prog ops Q (o :: rest) a w :=
  wpList_wantedS hw fun _ hK => wp_store_row 33 x y ho b _ hx hy 33 _ hP.obj info_sh rfl (by simp [Value.oneCell']) (hK _ _ (h _ ⟨setRow_heapS _ _ _ _ _ _ hP.obj⟩ (setRow_frS _ _ _)))
theorem run_eqS (p : Sh) (w : World) : (binOp .eql 33 (.agg #[.int .i64 p.id, .int .i64 p.ow, .int .i64 p.kd, .int .i64 p.px, .int .i64 p.py, .int .i64 p.pz, .int .i64 p.vx, .int .i64 p.vy, .int .i64 p.vz, .int .i64 p.fu, .bool p.rs]) (.agg #[.int .i64 p.id, .int .i64 p.ow, .int .i64 p.kd, .int .i64 p.px, .int .i64 p.py, .int .i64 p.pz, .int .i64 p.vx, .int .i64 p.vy, .int .i64 p.vz, .int .i64 p.fu, .bool p.rs])).run Try.prog w = .ok (.bool true) w := by
  have := eqSh_refl p w
  simp [binOp, Op.equal, Op.maxDepth, Sem.run_bind, this]
theorem run_neS (p : Sh) (w : World) : (binOp .neq 33 (.agg #[.int .i64 p.id, .int .i64 p.ow, .int .i64 p.kd, .int .i64 p.px, .int .i64 p.py, .int .i64 p.pz, .int .i64 p.vx, .int .i64 p.vy, .int .i64 p.vz, .int .i64 p.fu, .bool p.rs]) (.agg #[.int .i64 p.id, .int .i64 p.ow, .int .i64 p.kd, .int .i64 p.px, .int .i64 p.py, .int .i64 p.pz, .int .i64 p.vx, .int .i64 p.vy, .int .i64 p.vz, .int .i64 p.fu, .bool p.rs])).run Try.prog w = .ok (.bool false) w := by
  have := eqSh_refl p w
  simp [binOp, Op.equal, Op.maxDepth, Sem.run_bind, this]
theorem guard_sh : Try.prog.eqGuardType Try.prog.depth 33 = false := by kernel_rfl
theorem run_guardS (op : BinOp) (x y : Operand) (p q : Sh) (w : World) : (eqGuard op 33 x y (.agg #[.int .i64 p.id, .int .i64 p.ow, .int .i64 p.kd, .int .i64 p.px, .int .i64 p.py, .int .i64 p.pz, .int .i64 p.vx, .int .i64 p.vy, .int .i64 p.vz, .int .i64 p.fu, .bool p.rs]) (.agg #[.int .i64 q.id, .int .i64 q.ow, .int .i64 q.kd, .int .i64 q.px, .int .i64 q.py, .int .i64 q.pz, .int .i64 q.vx, .int .i64 q.vy, .int .i64 q.vz, .int .i64 q.fu, .bool q.rs])).run Try.prog w = .ok () w := by
  have := guard_sh
  cases op <;> simp [eqGuard, Sem.run_bind, this, go_sem]
theorem wpList_eqS (hw : Region.wanted o (yielded ops a.tmps) = true) (x y : Operand) (r : TypeId) (ho : o.op = .binOp .eql 33 x y r) (p : Sh) (hx : a.eval x = .agg #[.int .i64 p.id, .int .i64 p.ow, .int .i64 p.kd, .int .i64 p.px, .int .i64 p.py, .int .i64 p.pz, .int .i64 p.vx, .int .i64 p.vy, .int .i64 p.vz, .int .i64 p.fu, .bool p.rs]) (hy : a.eval y = .agg #[.int .i64 p.id, .int .i64 p.ow, .int .i64 p.kd, .int .i64 p.px, .int .i64 p.py, .int .i64 p.pz, .int .i64 p.vx, .int .i64 p.vy, .int .i64 p.vz, .int .i64 p.fu, .bool p.rs])
    (h : wpList Try.prog ops Q rest (a.put o.dst (.bool true)) w) : wpList Try.prog ops Q (o :: rest) a w :=
  wpList_wantedS hw fun _ hK => by
    unfold Oper.wp execOp
    simp only [ho, hx, hy, Sem.run_bind, Sem.run_pure, Result.andThen_ok, run_guardS, run_eqS]
    exact hK _ _ h
theorem wpList_neS (hw : Region.wanted o (yielded ops a.tmps) = true) (x y : Operand) (r : TypeId) (ho : o.op = .binOp .neq 33 x y r) (p : Sh) (hx : a.eval x = .agg #[.int .i64 p.id, .int .i64 p.ow, .int .i64 p.kd, .int .i64 p.px, .int .i64 p.py, .int .i64 p.pz, .int .i64 p.vx, .int .i64 p.vy, .int .i64 p.vz, .int .i64 p.fu, .bool p.rs]) (hy : a.eval y = .agg #[.int .i64 p.id, .int .i64 p.ow, .int .i64 p.kd, .int .i64 p.px, .int .i64 p.py, .int .i64 p.pz, .int .i64 p.vx, .int .i64 p.vy, .int .i64 p.vz, .int .i64 p.fu, .bool p.rs])
    (h : wpList Try.prog ops Q rest (a.put o.dst (.bool false)) w) : wpList Try.prog ops Q (o :: rest) a w :=
  wpList_wantedS hw fun _ hK => by
    unfold Oper.wp execOp
    simp only [ho, hx, hy, Sem.run_bind, Sem.run_pure, Result.andThen_ok, run_guardS, run_neS]
    exact hK _ _ h
end
set_option maxHeartbeats 1000000 in
theorem shotAxes (b o p q : Nat) (hp : p = o + 1) (hq : q = o + 2) (w : World) : Calls Try.prog 36 #[.pointer (some ⟨b, o, none⟩)] w fun e w' => e = .returned (.agg #[.pointer (some ⟨b, o, none⟩), .pointer (some ⟨b, p, none⟩), .pointer (some ⟨b, q, none⟩)]) ∧ Below w.heap.size w w' := by
  subst hp; subst hq
  go_enter Try.func36, Try.ntmps36
  go_wp2
  go_region
  go_wp2
  refine bodyPost_ret (v := .agg #[.pointer (some ⟨b, o, none⟩), .pointer (some ⟨b, o + 1, none⟩), .pointer (some ⟨b, o + 2, none⟩)]) ?_ rfl ⟨rfl, ((Below.refl _ _).alloc (Nat.le_refl _) _).drew⟩
  simp [results, Try.results36, go_sem]
/-- Where a place is solid. -/
def Mp.sol (M : Mp) (x y z : Int) : Bool := M.solid (x / 65536) (y / 65536) (z / 65536)
set_option maxHeartbeats 1000000 in
theorem shotSolid (W D H : Int) (mp : Option Addr) (mn mc : Nat) (mf : Nat → Bool) (sp : Option Addr) (sn sc : Nat) (x y z : Int) (ix : I64 x) (iy : I64 y) (iz : I64 z) (w : World) (hm : Arg w mp mn mc fun i => .bool (mf i)) :
    Calls Try.prog 37 #[.agg #[.int .i64 W, .int .i64 D, .int .i64 H, .slice mp mn mc, .slice sp sn sc], .agg #[.int .i64 x, .int .i64 y, .int .i64 z]] w fun e w' => e = .returned (.bool ((mpOf W D H mn mf).sol x y z)) ∧ Below w.heap.size w w' := by
  have HM := hid (fun V (hV : Below w.heap.size w V) => hm.keep hV)
  have HS := hid (fun V (hV : Below w.heap.size w V) => gridSolid W D H mp mn mc mf sp sn sc (x / 65536) (y / 65536) (z / 65536) V (hm.keep hV))
  unfold Mp.sol
  obtain ⟨d, hd⟩ : ∃ d, (mpOf W D H mn mf).solid (x / 65536) (y / 65536) (z / 65536) = d := ⟨_, rfl⟩
  rw [hd] at HS ⊢
  clear hd hm
  have O : O5 ((w.alloc (.cells #[.int .i64 W, .int .i64 D, .int .i64 H, .slice mp mn mc, .slice sp sn sc] 25)).alloc (.cells #[.int .i64 x, .int .i64 y, .int .i64 z] 27)) w.heap.size (.int .i64 W) (.int .i64 D) (.int .i64 H) (.slice mp mn mc) (.slice sp sn sc) := (O5.new _ _ _ _ _ _).alloc _
  have P : O3 ((w.alloc (.cells #[.int .i64 W, .int .i64 D, .int .i64 H, .slice mp mn mc, .slice sp sn sc] 25)).alloc (.cells #[.int .i64 x, .int .i64 y, .int .i64 z] 27)) (w.heap.size + 1) 27 (.int .i64 x) (.int .i64 y) (.int .i64 z) := O3.new' _ _ _ _ _ (by simp)
  have HB : Below w.heap.size w ((w.alloc (.cells #[.int .i64 W, .int .i64 D, .int .i64 H, .slice mp mn mc, .slice sp sn sc] 25)).alloc (.cells #[.int .i64 x, .int .i64 y, .int .i64 z] 27)) := ((Below.refl _ _).alloc (Nat.le_refl _) _).alloc (by simp) _
  go_enter Try.func37, Try.ntmps37
  go_upto_region 1 with fail
  generalize (w.alloc (.cells #[.int .i64 W, .int .i64 D, .int .i64 H, .slice mp mn mc, .slice sp sn sc] 25)).alloc (.cells #[.int .i64 x, .int .i64 y, .int .i64 z] 27) = V0 at *
  obtain ⟨p0, p1, p2⟩ := P.cells
  go_wp2_with fail
  refine (gridAt x y z ix iy iz _).mono ?_; rintro e V1 ⟨rfl, bq⟩
  clear p0 p1 p2
  replace O := O.keep bq; replace HB := btrans HB bq
  clear bq P
  obtain ⟨m0, m1, m2, m3, m4⟩ := O.cells
  go_wp2_with fail
  refine (HS.out _ HB).mono ?_; rintro e V2 ⟨rfl, bq⟩
  replace HB := btrans HB bq
  clear m0 m1 m2 m3 m4 O bq
  go_wp2
  go_ret
  exact ⟨rfl, HB⟩
set_option maxHeartbeats 1000000 in
theorem lawSolid12 (W D H : Int) (mp : Option Addr) (mn mc : Nat) (mf : Nat → Bool) (sp : Option Addr) (sn sc : Nat) (x y z : Int) (ix : I64 x) (iy : I64 y) (iz : I64 z) (w : World) (hm : Arg w mp mn mc fun i => .bool (mf i)) :
    Calls Try.prog 11 #[.agg #[.int .i64 W, .int .i64 D, .int .i64 H, .slice mp mn mc, .slice sp sn sc], .agg #[.int .i64 x, .int .i64 y, .int .i64 z]] w fun e w' => e = .returned (.bool ((mpOf W D H mn mf).sol x y z)) ∧ Below w.heap.size w w' := by
  have HM := hid (fun V (hV : Below w.heap.size w V) => hm.keep hV)
  have HS := hid (fun V (hV : Below w.heap.size w V) => gridSolid W D H mp mn mc mf sp sn sc (x / 65536) (y / 65536) (z / 65536) V (hm.keep hV))
  unfold Mp.sol
  obtain ⟨d, hd⟩ : ∃ d, (mpOf W D H mn mf).solid (x / 65536) (y / 65536) (z / 65536) = d := ⟨_, rfl⟩
  rw [hd] at HS ⊢
  clear hd hm
  have O : O5 ((w.alloc (.cells #[.int .i64 W, .int .i64 D, .int .i64 H, .slice mp mn mc, .slice sp sn sc] 25)).alloc (.cells #[.int .i64 x, .int .i64 y, .int .i64 z] 27)) w.heap.size (.int .i64 W) (.int .i64 D) (.int .i64 H) (.slice mp mn mc) (.slice sp sn sc) := (O5.new _ _ _ _ _ _).alloc _
  have P : O3 ((w.alloc (.cells #[.int .i64 W, .int .i64 D, .int .i64 H, .slice mp mn mc, .slice sp sn sc] 25)).alloc (.cells #[.int .i64 x, .int .i64 y, .int .i64 z] 27)) (w.heap.size + 1) 27 (.int .i64 x) (.int .i64 y) (.int .i64 z) := O3.new' _ _ _ _ _ (by simp)
  have HB : Below w.heap.size w ((w.alloc (.cells #[.int .i64 W, .int .i64 D, .int .i64 H, .slice mp mn mc, .slice sp sn sc] 25)).alloc (.cells #[.int .i64 x, .int .i64 y, .int .i64 z] 27)) := ((Below.refl _ _).alloc (Nat.le_refl _) _).alloc (by simp) _
  go_enter Try.func11, Try.ntmps11
  go_upto_region 1 with fail
  generalize (w.alloc (.cells #[.int .i64 W, .int .i64 D, .int .i64 H, .slice mp mn mc, .slice sp sn sc] 25)).alloc (.cells #[.int .i64 x, .int .i64 y, .int .i64 z] 27) = V0 at *
  obtain ⟨p0, p1, p2⟩ := P.cells
  go_wp2_with fail
  refine (gridAt x y z ix iy iz _).mono ?_; rintro e V1 ⟨rfl, bq⟩
  clear p0 p1 p2
  replace O := O.keep bq; replace HB := btrans HB bq
  clear bq P
  obtain ⟨m0, m1, m2, m3, m4⟩ := O.cells
  go_wp2_with fail
  refine (HS.out _ HB).mono ?_; rintro e V2 ⟨rfl, bq⟩
  replace HB := btrans HB bq
  clear m0 m1 m2 m3 m4 O bq
  go_wp2
  go_ret
  exact ⟨rfl, HB⟩
def inB (n m : Int) : Bool := decide (n ≤ m) && decide (-m ≤ n)
theorem lawIn12 (n m : Int) (h0 : 0 ≤ m) (h1 : m ≤ 1000000000) (w : World) : Calls Try.prog 10 #[.int .i64 n, .int .i64 m] w fun e w' => e = .returned (.bool (inB n m)) ∧ w' = w := by
  have e1 : IntKind.i64.wrap (-m) = -m := wrapI (by omega) (by omega)
  unfold inB
  by_cases h : n ≤ m
  · rw [show (decide (n ≤ m) && decide (-m ≤ n)) = decide (-m ≤ n) by simp [h]]
    go_enter Try.func10, Try.ntmps10
    go_wp2
    go_ret
    exact ⟨rfl, rfl⟩
  · rw [show (decide (n ≤ m) && decide (-m ≤ n)) = false by simp [h]]
    go_enter Try.func10, Try.ntmps10
    go_wp2
    go_ret
    exact ⟨rfl, rfl⟩
/-- Has a speed the sign of a direction, and is it not too great? -/
def goB (d v s : Int) : Bool := decide (v = 0) || decide (0 < d) && decide (0 < v) && decide (v ≤ s) || decide (d < 0) && decide (v < 0) && decide (-s ≤ v)
theorem lawGoes (d v s : Int) (h : goB d v s = true) (h0 : 0 ≤ s) (h1 : s ≤ 1000000000) (w : World) : Calls Try.prog 16 #[.int .i64 d, .int .i64 v, .int .i64 s] w fun e w' => e = .returned (.bool true) ∧ w' = w := by
  have e1 : IntKind.i64.wrap (-s) = -s := wrapI (by omega) (by omega)
  have h' : v = 0 ∨ (0 < d ∧ 0 < v ∧ v ≤ s) ∨ (d < 0 ∧ v < 0 ∧ -s ≤ v) := by
    unfold goB at h
    simp only [Bool.or_eq_true, Bool.and_eq_true, decide_eq_true_eq] at h
    omega
  clear h
  rcases h' with h | ⟨h2, h3, h4⟩ | ⟨h2, h3, h4⟩
  · subst h
    go_enter Try.func16, Try.ntmps16
    go_wp2
    go_ret
    exact ⟨rfl, rfl⟩
  · have h5 : ¬ v = 0 := by omega
    go_enter Try.func16, Try.ntmps16
    go_wp2
    go_ret
    exact ⟨rfl, rfl⟩
  · have h5 : ¬ v = 0 := by omega
    have h6 : ¬ 0 < d := by omega
    go_enter Try.func16, Try.ntmps16
    go_wp2
    go_ret
    exact ⟨rfl, rfl⟩
set_option maxHeartbeats 1000000 in
theorem lawSmall12 (W D H : Int) (mp : Option Addr) (mn mc : Nat) (mf : Nat → Bool) (sp : Option Addr) (sn sc : Nat) (X Y Z : Nat → Int) (hX : ∀ i, I64 (X i) ∧ I64 (Y i) ∧ I64 (Z i)) (r : Bool) (hr : r = true ↔ (mpOf W D H mn mf).RightP sn X Y Z) (w : World) (hm : Arg w mp mn mc fun i => .bool (mf i)) (hv : ArgW w sp sn sc X Y Z) :
    Calls Try.prog 9 #[.agg #[.int .i64 W, .int .i64 D, .int .i64 H, .slice mp mn mc, .slice sp sn sc]] w fun e w' => e = .returned (.bool (decide (W ≤ 10) && decide (D ≤ 10) && decide (H ≤ 10) && r)) ∧ Below w.heap.size w w' := by
  have HR := hid (fun V (hV : Below w.heap.size w V) => gridRight W D H mp mn mc mf sp sn sc X Y Z hX V (hm.keep hV) (hv.keep hV) r hr)
  have B1 : Below w.heap.size w (w.alloc (.cells #[.int .i64 W, .int .i64 D, .int .i64 H, .slice mp mn mc, .slice sp sn sc] 25)) := (Below.refl _ _).alloc (Nat.le_refl _) _
  clear hm hv hr
  by_cases h1 : W ≤ 10
  · by_cases h2 : D ≤ 10
    · by_cases h3 : H ≤ 10
      · rw [show (decide (W ≤ 10) && decide (D ≤ 10) && decide (H ≤ 10) && r) = r by simp [h1, h2, h3]]
        go_enter Try.func9, Try.ntmps9
        go_wp2_with fail
        refine (HR.out _ B1).mono ?_; rintro e V1 ⟨rfl, bq⟩
        replace B1 := btrans B1 bq
        clear bq HR
        cases r with
        | false =>
          go_wp2
          go_ret
          exact ⟨rfl, B1⟩
        | true =>
          go_wp2
          go_ret
          exact ⟨rfl, B1⟩
      · rw [show (decide (W ≤ 10) && decide (D ≤ 10) && decide (H ≤ 10) && r) = false by simp [h3]]
        go_enter Try.func9, Try.ntmps9
        go_wp2
        go_ret
        exact ⟨rfl, B1⟩
    · rw [show (decide (W ≤ 10) && decide (D ≤ 10) && decide (H ≤ 10) && r) = false by simp [h2]]
      go_enter Try.func9, Try.ntmps9
      go_wp2
      go_ret
      exact ⟨rfl, B1⟩
  · rw [show (decide (W ≤ 10) && decide (D ≤ 10) && decide (H ≤ 10) && r) = false by simp [h1]]
    go_enter Try.func9, Try.ntmps9
    go_wp2
    go_ret
    exact ⟨rfl, B1⟩
def nearB12 (s : Sh) : Bool := inB s.px 65536000 && inB s.py 65536000 && inB s.pz 65536000 && inB s.vx 262144 && inB s.vy 262144 && inB s.vz 262144 && decide (s.fu ≤ 1000000) && decide (-1000000 ≤ s.fu)
theorem nearB12_in {s : Sh} (h : nearB12 s = true) : s.In 65536000 1000000 := by
  unfold nearB12 inB at h
  simp only [Bool.and_eq_true, decide_eq_true_eq] at h
  obtain ⟨⟨⟨⟨⟨⟨⟨⟨h1, h2⟩, ⟨h3, h4⟩⟩, ⟨h5, h6⟩⟩, ⟨h7, h8⟩⟩, ⟨h9, h10⟩⟩, ⟨h11, h12⟩⟩, h13⟩, h14⟩ := h
  constructor <;> omega
set_option maxHeartbeats 2000000 in
theorem lawNear (s : Sh) (w : World) : Calls Try.prog 14 #[.agg #[.int .i64 s.id, .int .i64 s.ow, .int .i64 s.kd, .int .i64 s.px, .int .i64 s.py, .int .i64 s.pz, .int .i64 s.vx, .int .i64 s.vy, .int .i64 s.vz, .int .i64 s.fu, .bool s.rs]] w fun e w' => e = .returned (.bool (nearB12 s)) ∧ Below w.heap.size w w' := by
  unfold nearB12
  have H0 := hid (fun V => lawIn12 s.px 65536000 (by omega) (by omega) V)
  obtain ⟨d0, hd⟩ : ∃ d, inB s.px 65536000 = d := ⟨_, rfl⟩
  rw [hd] at H0 ⊢
  clear hd
  have H1 := hid (fun V => lawIn12 s.py 65536000 (by omega) (by omega) V)
  obtain ⟨d1, hd⟩ : ∃ d, inB s.py 65536000 = d := ⟨_, rfl⟩
  rw [hd] at H1 ⊢
  clear hd
  have H2 := hid (fun V => lawIn12 s.pz 65536000 (by omega) (by omega) V)
  obtain ⟨d2, hd⟩ : ∃ d, inB s.pz 65536000 = d := ⟨_, rfl⟩
  rw [hd] at H2 ⊢
  clear hd
  have H3 := hid (fun V => lawIn12 s.vx 262144 (by omega) (by omega) V)
  obtain ⟨d3, hd⟩ : ∃ d, inB s.vx 262144 = d := ⟨_, rfl⟩
  rw [hd] at H3 ⊢
  clear hd
  have H4 := hid (fun V => lawIn12 s.vy 262144 (by omega) (by omega) V)
  obtain ⟨d4, hd⟩ : ∃ d, inB s.vy 262144 = d := ⟨_, rfl⟩
  rw [hd] at H4 ⊢
  clear hd
  have H5 := hid (fun V => lawIn12 s.vz 262144 (by omega) (by omega) V)
  obtain ⟨d5, hd⟩ : ∃ d, inB s.vz 262144 = d := ⟨_, rfl⟩
  rw [hd] at H5 ⊢
  clear hd
  have P : ShAt (w.alloc (.cells #[.int .i64 s.id, .int .i64 s.ow, .int .i64 s.kd, .int .i64 s.px, .int .i64 s.py, .int .i64 s.pz, .int .i64 s.vx, .int .i64 s.vy, .int .i64 s.vz, .int .i64 s.fu, .bool s.rs] 33)) w.heap.size s := ShAt.new w s
  have HB : Below w.heap.size w (w.alloc (.cells #[.int .i64 s.id, .int .i64 s.ow, .int .i64 s.kd, .int .i64 s.px, .int .i64 s.py, .int .i64 s.pz, .int .i64 s.vx, .int .i64 s.vy, .int .i64 s.vz, .int .i64 s.fu, .bool s.rs] 33)) := (Below.refl _ _).alloc (Nat.le_refl _) _
  go_enter Try.func14, Try.ntmps14
  go_upto_region 1 with fail
  generalize w.alloc (.cells #[.int .i64 s.id, .int .i64 s.ow, .int .i64 s.kd, .int .i64 s.px, .int .i64 s.py, .int .i64 s.pz, .int .i64 s.vx, .int .i64 s.vy, .int .i64 s.vz, .int .i64 s.fu, .bool s.rs] 33) = V0 at *
  obtain ⟨c0, c1, c2, c3, c4, c5, c6, c7, c8, c9, c10⟩ := P.cells
  go_wp2_with fail
  refine (H0.out _).mono ?_; rintro e V1 ⟨rfl, hv⟩
  replace hv := hv.symm; subst hv
  cases d0 with
  | false =>
    go_wp2
    go_ret
    exact ⟨by simp, HB⟩
  | true =>
    go_wp2_with fail
    refine (H1.out _).mono ?_; rintro e V2 ⟨rfl, hv⟩
    replace hv := hv.symm; subst hv
    cases d1 with
    | false =>
      go_wp2
      go_ret
      exact ⟨by simp, HB⟩
    | true =>
      go_wp2_with fail
      refine (H2.out _).mono ?_; rintro e V3 ⟨rfl, hv⟩
      replace hv := hv.symm; subst hv
      cases d2 with
      | false =>
        go_wp2
        go_ret
        exact ⟨by simp, HB⟩
      | true =>
        go_wp2_with fail
        refine (H3.out _).mono ?_; rintro e V4 ⟨rfl, hv⟩
        replace hv := hv.symm; subst hv
        cases d3 with
        | false =>
          go_wp2
          go_ret
          exact ⟨by simp, HB⟩
        | true =>
          go_wp2_with fail
          refine (H4.out _).mono ?_; rintro e V5 ⟨rfl, hv⟩
          replace hv := hv.symm; subst hv
          cases d4 with
          | false =>
            go_wp2
            go_ret
            exact ⟨by simp, HB⟩
          | true =>
            go_wp2_with fail
            refine (H5.out _).mono ?_; rintro e V6 ⟨rfl, hv⟩
            replace hv := hv.symm; subst hv
            cases d5 with
            | false =>
              go_wp2
              go_ret
              exact ⟨by simp, HB⟩
            | true =>
              by_cases h : s.fu ≤ 1000000
              · skip
                go_wp2
                go_ret
                exact ⟨by simp [h], HB⟩
              · skip
                go_wp2
                go_ret
                exact ⟨by rw [show decide (s.fu ≤ 1000000) = false from decide_eq_false (by omega)]; simp, HB⟩
end Go.Proofs.Ythcmcjklhcfenaa
