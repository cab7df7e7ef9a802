/- Layer 11 (walk): boxes of a player, and of a command. -/
import Derived.Test.YtjjdclckkhddbaaWkM
import Derived.Test.YtjjdclckkhddbaaTrD
import Derived.Test.YtjjdclckkhddbaaTwE
import Derived.Test.YtjjdclckkhddbaaTrE
namespace Go.Proofs.Ytjjdclckkhddbaa
open Go.RowKit
set_option linter.unusedVariables false
set_option linter.unusedSimpArgs false
attribute [local go_sem ↓] Go.wp_at_zero Go.wp_at_succ

theorem O5.fr {w V : World} {b : Nat} {x0 x1 x2 x3 x4 : Value} {S : Nat → Prop} (h : O5 w b x0 x1 x2 x3 x4) (hf : Fr S w V) (hs : ¬ S b) : O5 V b x0 x1 x2 x3 x4 := ⟨by rw [hf.block b h.lt hs]; exact h.obj⟩
theorem O3.fr {w V : World} {b : Nat} {t : TypeId} {x y z : Value} {S : Nat → Prop} (h : O3 w b t x y z) (hf : Fr S w V) (hs : ¬ S b) : O3 V b t x y z := ⟨by rw [hf.block b h.lt hs]; exact h.obj⟩
theorem Bs.fr {w V : World} {g N cap : Nat} {f : Nat → Bool} {S : Nat → Prop} (h : Bs w g N cap f) (hf : Fr S w V) (hs : ¬ S g) : Bs V g N cap f := by
  obtain ⟨cur, hg, hc⟩ := h.row
  exact ⟨h.le, h.most, cur, by rw [hf.block g h.lt hs]; exact hg, hc⟩
theorem below_fr {B : Nat} {w V U : World} {S : Nat → Prop} (h : Below B w V) (hf : Fr S V U) (hb : B ≤ w.heap.size) (hs : ∀ k, S k → B ≤ k) : Below B w U := h.trans (hf.below (Nat.le_trans hb h.size) hs)
/-- A box of api.Player. -/
structure PlAt (w : World) (b : Nat) (p : Pl) : Prop where
  obj : w.heap[b]? = some (.cells #[.int .i64 p.id, .int .i64 p.px, .int .i64 p.py, .int .i64 p.pz, .int .i64 p.vx, .int .i64 p.vy, .int .i64 p.vz, .bool p.gr, .int .i64 p.he, .int .i64 p.ar, .int .i64 p.sc, .int .i64 p.a0, .int .i64 p.a1, .int .i64 p.wa, .int .i64 p.de] 30 (0, 0))
theorem PlAt.lt {w : World} {b : Nat} {p : Pl} (h : PlAt w b p) : b < w.heap.size := (Array.getElem?_eq_some_iff.1 h.obj).1
theorem PlAt.cells {w : World} {b : Nat} {p : Pl} (h : PlAt w b p) : w.cell? ⟨b, 0, none⟩ = some (.int .i64 p.id) ∧ w.cell? ⟨b, 1, none⟩ = some (.int .i64 p.px) ∧ w.cell? ⟨b, 2, none⟩ = some (.int .i64 p.py) ∧ w.cell? ⟨b, 3, none⟩ = some (.int .i64 p.pz) ∧ w.cell? ⟨b, 4, none⟩ = some (.int .i64 p.vx) ∧ w.cell? ⟨b, 5, none⟩ = some (.int .i64 p.vy) ∧ w.cell? ⟨b, 6, none⟩ = some (.int .i64 p.vz) ∧ w.cell? ⟨b, 7, none⟩ = some (.bool p.gr) ∧ w.cell? ⟨b, 8, none⟩ = some (.int .i64 p.he) ∧ w.cell? ⟨b, 9, none⟩ = some (.int .i64 p.ar) ∧ w.cell? ⟨b, 10, none⟩ = some (.int .i64 p.sc) ∧ w.cell? ⟨b, 11, none⟩ = some (.int .i64 p.a0) ∧ w.cell? ⟨b, 12, none⟩ = some (.int .i64 p.a1) ∧ w.cell? ⟨b, 13, none⟩ = some (.int .i64 p.wa) ∧ w.cell? ⟨b, 14, none⟩ = some (.int .i64 p.de) :=
  ⟨cell_of_row w b 0 _ 30 (0, 0) h.obj, cell_of_row w b 1 _ 30 (0, 0) h.obj, cell_of_row w b 2 _ 30 (0, 0) h.obj, cell_of_row w b 3 _ 30 (0, 0) h.obj, cell_of_row w b 4 _ 30 (0, 0) h.obj, cell_of_row w b 5 _ 30 (0, 0) h.obj, cell_of_row w b 6 _ 30 (0, 0) h.obj, cell_of_row w b 7 _ 30 (0, 0) h.obj, cell_of_row w b 8 _ 30 (0, 0) h.obj, cell_of_row w b 9 _ 30 (0, 0) h.obj, cell_of_row w b 10 _ 30 (0, 0) h.obj, cell_of_row w b 11 _ 30 (0, 0) h.obj, cell_of_row w b 12 _ 30 (0, 0) h.obj, cell_of_row w b 13 _ 30 (0, 0) h.obj, cell_of_row w b 14 _ 30 (0, 0) h.obj⟩
theorem PlAt.thaw {w : World} {b : Nat} {p : Pl} (h : PlAt w b p) : w.frozen? ⟨b, 0, none⟩ = false ∧ w.frozen? ⟨b, 1, none⟩ = false ∧ w.frozen? ⟨b, 2, none⟩ = false ∧ w.frozen? ⟨b, 3, none⟩ = false ∧ w.frozen? ⟨b, 4, none⟩ = false ∧ w.frozen? ⟨b, 5, none⟩ = false ∧ w.frozen? ⟨b, 6, none⟩ = false ∧ w.frozen? ⟨b, 7, none⟩ = false ∧ w.frozen? ⟨b, 8, none⟩ = false ∧ w.frozen? ⟨b, 9, none⟩ = false ∧ w.frozen? ⟨b, 10, none⟩ = false ∧ w.frozen? ⟨b, 11, none⟩ = false ∧ w.frozen? ⟨b, 12, none⟩ = false ∧ w.frozen? ⟨b, 13, none⟩ = false ∧ w.frozen? ⟨b, 14, none⟩ = false := by simp [World.frozen?, h.obj]
theorem PlAt.keep {w V : World} {b : Nat} {p : Pl} (h : PlAt w b p) (hb : Below w.heap.size w V) : PlAt V b p := ⟨by rw [hb.block b h.lt]; exact h.obj⟩
theorem PlAt.fr {w V : World} {b : Nat} {p : Pl} {S : Nat → Prop} (h : PlAt w b p) (hf : Fr S w V) (hs : ¬ S b) : PlAt V b p := ⟨by rw [hf.block b h.lt hs]; exact h.obj⟩
theorem PlAt.new (w : World) (p : Pl) : PlAt (w.alloc (.cells #[.int .i64 p.id, .int .i64 p.px, .int .i64 p.py, .int .i64 p.pz, .int .i64 p.vx, .int .i64 p.vy, .int .i64 p.vz, .bool p.gr, .int .i64 p.he, .int .i64 p.ar, .int .i64 p.sc, .int .i64 p.a0, .int .i64 p.a1, .int .i64 p.wa, .int .i64 p.de] 30)) w.heap.size p := ⟨heap_alloc_new w _⟩
theorem PlAt.new' (w : World) (p : Pl) {b : Nat} (hb : b = w.heap.size) : PlAt (w.alloc (.cells #[.int .i64 p.id, .int .i64 p.px, .int .i64 p.py, .int .i64 p.pz, .int .i64 p.vx, .int .i64 p.vy, .int .i64 p.vz, .bool p.gr, .int .i64 p.he, .int .i64 p.ar, .int .i64 p.sc, .int .i64 p.a0, .int .i64 p.a1, .int .i64 p.wa, .int .i64 p.de] 30)) b p := hb ▸ PlAt.new w p
theorem PlAt.alloc {w : World} {b : Nat} {p : Pl} (h : PlAt w b p) (o : Obj) : PlAt (w.alloc o) b p := ⟨by rw [Below.heap_alloc _ _ _ h.lt]; exact h.obj⟩
theorem PlAt.s0 {w : World} {b : Nat} {p : Pl} (h : PlAt w b p) (n : Int) : PlAt (w.setCell ⟨b, 0, none⟩ (.int .i64 n)) b { p with id := n } :=
  ⟨by have := heap_set_same (i := 0) h.obj (.int .i64 n); simpa only [List.setIfInBounds_toArray, List.set_cons_zero, List.set_cons_succ] using this⟩
theorem PlAt.s1 {w : World} {b : Nat} {p : Pl} (h : PlAt w b p) (n : Int) : PlAt (w.setCell ⟨b, 1, none⟩ (.int .i64 n)) b { p with px := n } :=
  ⟨by have := heap_set_same (i := 1) h.obj (.int .i64 n); simpa only [List.setIfInBounds_toArray, List.set_cons_zero, List.set_cons_succ] using this⟩
theorem PlAt.s2 {w : World} {b : Nat} {p : Pl} (h : PlAt w b p) (n : Int) : PlAt (w.setCell ⟨b, 2, none⟩ (.int .i64 n)) b { p with py := n } :=
  ⟨by have := heap_set_same (i := 2) h.obj (.int .i64 n); simpa only [List.setIfInBounds_toArray, List.set_cons_zero, List.set_cons_succ] using this⟩
theorem PlAt.s3 {w : World} {b : Nat} {p : Pl} (h : PlAt w b p) (n : Int) : PlAt (w.setCell ⟨b, 3, none⟩ (.int .i64 n)) b { p with pz := n } :=
  ⟨by have := heap_set_same (i := 3) h.obj (.int .i64 n); simpa only [List.setIfInBounds_toArray, List.set_cons_zero, List.set_cons_succ] using this⟩
theorem PlAt.s4 {w : World} {b : Nat} {p : Pl} (h : PlAt w b p) (n : Int) : PlAt (w.setCell ⟨b, 4, none⟩ (.int .i64 n)) b { p with vx := n } :=
  ⟨by have := heap_set_same (i := 4) h.obj (.int .i64 n); simpa only [List.setIfInBounds_toArray, List.set_cons_zero, List.set_cons_succ] using this⟩
theorem PlAt.s5 {w : World} {b : Nat} {p : Pl} (h : PlAt w b p) (n : Int) : PlAt (w.setCell ⟨b, 5, none⟩ (.int .i64 n)) b { p with vy := n } :=
  ⟨by have := heap_set_same (i := 5) h.obj (.int .i64 n); simpa only [List.setIfInBounds_toArray, List.set_cons_zero, List.set_cons_succ] using this⟩
theorem PlAt.s6 {w : World} {b : Nat} {p : Pl} (h : PlAt w b p) (n : Int) : PlAt (w.setCell ⟨b, 6, none⟩ (.int .i64 n)) b { p with vz := n } :=
  ⟨by have := heap_set_same (i := 6) h.obj (.int .i64 n); simpa only [List.setIfInBounds_toArray, List.set_cons_zero, List.set_cons_succ] using this⟩
theorem PlAt.s7 {w : World} {b : Nat} {p : Pl} (h : PlAt w b p) (n : Bool) : PlAt (w.setCell ⟨b, 7, none⟩ (.bool n)) b { p with gr := n } :=
  ⟨by have := heap_set_same (i := 7) h.obj (.bool n); simpa only [List.setIfInBounds_toArray, List.set_cons_zero, List.set_cons_succ] using this⟩
theorem PlAt.s8 {w : World} {b : Nat} {p : Pl} (h : PlAt w b p) (n : Int) : PlAt (w.setCell ⟨b, 8, none⟩ (.int .i64 n)) b { p with he := n } :=
  ⟨by have := heap_set_same (i := 8) h.obj (.int .i64 n); simpa only [List.setIfInBounds_toArray, List.set_cons_zero, List.set_cons_succ] using this⟩
theorem PlAt.s9 {w : World} {b : Nat} {p : Pl} (h : PlAt w b p) (n : Int) : PlAt (w.setCell ⟨b, 9, none⟩ (.int .i64 n)) b { p with ar := n } :=
  ⟨by have := heap_set_same (i := 9) h.obj (.int .i64 n); simpa only [List.setIfInBounds_toArray, List.set_cons_zero, List.set_cons_succ] using this⟩
theorem PlAt.s10 {w : World} {b : Nat} {p : Pl} (h : PlAt w b p) (n : Int) : PlAt (w.setCell ⟨b, 10, none⟩ (.int .i64 n)) b { p with sc := n } :=
  ⟨by have := heap_set_same (i := 10) h.obj (.int .i64 n); simpa only [List.setIfInBounds_toArray, List.set_cons_zero, List.set_cons_succ] using this⟩
theorem PlAt.s11 {w : World} {b : Nat} {p : Pl} (h : PlAt w b p) (n : Int) : PlAt (w.setCell ⟨b, 11, none⟩ (.int .i64 n)) b { p with a0 := n } :=
  ⟨by have := heap_set_same (i := 11) h.obj (.int .i64 n); simpa only [List.setIfInBounds_toArray, List.set_cons_zero, List.set_cons_succ] using this⟩
theorem PlAt.s12 {w : World} {b : Nat} {p : Pl} (h : PlAt w b p) (n : Int) : PlAt (w.setCell ⟨b, 12, none⟩ (.int .i64 n)) b { p with a1 := n } :=
  ⟨by have := heap_set_same (i := 12) h.obj (.int .i64 n); simpa only [List.setIfInBounds_toArray, List.set_cons_zero, List.set_cons_succ] using this⟩
theorem PlAt.s13 {w : World} {b : Nat} {p : Pl} (h : PlAt w b p) (n : Int) : PlAt (w.setCell ⟨b, 13, none⟩ (.int .i64 n)) b { p with wa := n } :=
  ⟨by have := heap_set_same (i := 13) h.obj (.int .i64 n); simpa only [List.setIfInBounds_toArray, List.set_cons_zero, List.set_cons_succ] using this⟩
theorem PlAt.s14 {w : World} {b : Nat} {p : Pl} (h : PlAt w b p) (n : Int) : PlAt (w.setCell ⟨b, 14, none⟩ (.int .i64 n)) b { p with de := n } :=
  ⟨by have := heap_set_same (i := 14) h.obj (.int .i64 n); simpa only [List.setIfInBounds_toArray, List.set_cons_zero, List.set_cons_succ] using this⟩
/-- A whole one stored. -/
theorem PlAt.all {w : World} {b : Nat} {p : Pl} (h : PlAt w b p) (q : Pl) : PlAt (((((((((((((((w.setCell ⟨b, 0, none⟩ (.int .i64 q.id)).setCell ⟨b, 1, none⟩ (.int .i64 q.px)).setCell ⟨b, 2, none⟩ (.int .i64 q.py)).setCell ⟨b, 3, none⟩ (.int .i64 q.pz)).setCell ⟨b, 4, none⟩ (.int .i64 q.vx)).setCell ⟨b, 5, none⟩ (.int .i64 q.vy)).setCell ⟨b, 6, none⟩ (.int .i64 q.vz)).setCell ⟨b, 7, none⟩ (.bool q.gr)).setCell ⟨b, 8, none⟩ (.int .i64 q.he)).setCell ⟨b, 9, none⟩ (.int .i64 q.ar)).setCell ⟨b, 10, none⟩ (.int .i64 q.sc)).setCell ⟨b, 11, none⟩ (.int .i64 q.a0)).setCell ⟨b, 12, none⟩ (.int .i64 q.a1)).setCell ⟨b, 13, none⟩ (.int .i64 q.wa)).setCell ⟨b, 14, none⟩ (.int .i64 q.de)) b q := (((((((((((((((h.s0 q.id).s1 q.px).s2 q.py).s3 q.pz).s4 q.vx).s5 q.vy).s6 q.vz).s7 q.gr).s8 q.he).s9 q.ar).s10 q.sc).s11 q.a0).s12 q.a1).s13 q.wa).s14 q.de)
theorem PlAt.allFr (w : World) (b : Nat) (q : Pl) : Fr (fun k => k = b) w (((((((((((((((w.setCell ⟨b, 0, none⟩ (.int .i64 q.id)).setCell ⟨b, 1, none⟩ (.int .i64 q.px)).setCell ⟨b, 2, none⟩ (.int .i64 q.py)).setCell ⟨b, 3, none⟩ (.int .i64 q.pz)).setCell ⟨b, 4, none⟩ (.int .i64 q.vx)).setCell ⟨b, 5, none⟩ (.int .i64 q.vy)).setCell ⟨b, 6, none⟩ (.int .i64 q.vz)).setCell ⟨b, 7, none⟩ (.bool q.gr)).setCell ⟨b, 8, none⟩ (.int .i64 q.he)).setCell ⟨b, 9, none⟩ (.int .i64 q.ar)).setCell ⟨b, 10, none⟩ (.int .i64 q.sc)).setCell ⟨b, 11, none⟩ (.int .i64 q.a0)).setCell ⟨b, 12, none⟩ (.int .i64 q.a1)).setCell ⟨b, 13, none⟩ (.int .i64 q.wa)).setCell ⟨b, 14, none⟩ (.int .i64 q.de)) := (((((((((((((((Fr.refl (fun k => k = b) w).setCell (p := ⟨b, 0, none⟩) rfl _).setCell (p := ⟨b, 1, none⟩) rfl _).setCell (p := ⟨b, 2, none⟩) rfl _).setCell (p := ⟨b, 3, none⟩) rfl _).setCell (p := ⟨b, 4, none⟩) rfl _).setCell (p := ⟨b, 5, none⟩) rfl _).setCell (p := ⟨b, 6, none⟩) rfl _).setCell (p := ⟨b, 7, none⟩) rfl _).setCell (p := ⟨b, 8, none⟩) rfl _).setCell (p := ⟨b, 9, none⟩) rfl _).setCell (p := ⟨b, 10, none⟩) rfl _).setCell (p := ⟨b, 11, none⟩) rfl _).setCell (p := ⟨b, 12, none⟩) rfl _).setCell (p := ⟨b, 13, none⟩) rfl _).setCell (p := ⟨b, 14, none⟩) rfl _
/-- A box of api.Command. -/
structure CmAt (w : World) (b : Nat) (c : Cm) : Prop where
  obj : w.heap[b]? = some (.cells #[.int .u16 c.sq, .int .u8 c.bt, .int .i8 c.dx, .int .i8 c.dy, .int .i64 c.tk] 34 (0, 0))
theorem CmAt.lt {w : World} {b : Nat} {c : Cm} (h : CmAt w b c) : b < w.heap.size := (Array.getElem?_eq_some_iff.1 h.obj).1
theorem CmAt.cells {w : World} {b : Nat} {c : Cm} (h : CmAt w b c) : w.cell? ⟨b, 0, none⟩ = some (.int .u16 c.sq) ∧ w.cell? ⟨b, 1, none⟩ = some (.int .u8 c.bt) ∧ w.cell? ⟨b, 2, none⟩ = some (.int .i8 c.dx) ∧ w.cell? ⟨b, 3, none⟩ = some (.int .i8 c.dy) ∧ w.cell? ⟨b, 4, none⟩ = some (.int .i64 c.tk) :=
  ⟨cell_of_row w b 0 _ 34 (0, 0) h.obj, cell_of_row w b 1 _ 34 (0, 0) h.obj, cell_of_row w b 2 _ 34 (0, 0) h.obj, cell_of_row w b 3 _ 34 (0, 0) h.obj, cell_of_row w b 4 _ 34 (0, 0) h.obj⟩
theorem CmAt.thaw {w : World} {b : Nat} {c : Cm} (h : CmAt w b c) : w.frozen? ⟨b, 0, none⟩ = false ∧ w.frozen? ⟨b, 1, none⟩ = false ∧ w.frozen? ⟨b, 2, none⟩ = false ∧ w.frozen? ⟨b, 3, none⟩ = false ∧ w.frozen? ⟨b, 4, none⟩ = false := by simp [World.frozen?, h.obj]
theorem CmAt.keep {w V : World} {b : Nat} {c : Cm} (h : CmAt w b c) (hb : Below w.heap.size w V) : CmAt V b c := ⟨by rw [hb.block b h.lt]; exact h.obj⟩
theorem CmAt.fr {w V : World} {b : Nat} {c : Cm} {S : Nat → Prop} (h : CmAt w b c) (hf : Fr S w V) (hs : ¬ S b) : CmAt V b c := ⟨by rw [hf.block b h.lt hs]; exact h.obj⟩
theorem CmAt.new (w : World) (c : Cm) : CmAt (w.alloc (.cells #[.int .u16 c.sq, .int .u8 c.bt, .int .i8 c.dx, .int .i8 c.dy, .int .i64 c.tk] 34)) w.heap.size c := ⟨heap_alloc_new w _⟩
theorem CmAt.new' (w : World) (c : Cm) {b : Nat} (hb : b = w.heap.size) : CmAt (w.alloc (.cells #[.int .u16 c.sq, .int .u8 c.bt, .int .i8 c.dx, .int .i8 c.dy, .int .i64 c.tk] 34)) b c := hb ▸ CmAt.new w c
theorem CmAt.alloc {w : World} {b : Nat} {c : Cm} (h : CmAt w b c) (o : Obj) : CmAt (w.alloc o) b c := ⟨by rw [Below.heap_alloc _ _ _ h.lt]; exact h.obj⟩
theorem CmAt.s0 {w : World} {b : Nat} {c : Cm} (h : CmAt w b c) (n : Int) : CmAt (w.setCell ⟨b, 0, none⟩ (.int .u16 n)) b { c with sq := n } :=
  ⟨by have := heap_set_same (i := 0) h.obj (.int .u16 n); simpa only [List.setIfInBounds_toArray, List.set_cons_zero, List.set_cons_succ] using this⟩
theorem CmAt.s1 {w : World} {b : Nat} {c : Cm} (h : CmAt w b c) (n : Int) : CmAt (w.setCell ⟨b, 1, none⟩ (.int .u8 n)) b { c with bt := n } :=
  ⟨by have := heap_set_same (i := 1) h.obj (.int .u8 n); simpa only [List.setIfInBounds_toArray, List.set_cons_zero, List.set_cons_succ] using this⟩
theorem CmAt.s2 {w : World} {b : Nat} {c : Cm} (h : CmAt w b c) (n : Int) : CmAt (w.setCell ⟨b, 2, none⟩ (.int .i8 n)) b { c with dx := n } :=
  ⟨by have := heap_set_same (i := 2) h.obj (.int .i8 n); simpa only [List.setIfInBounds_toArray, List.set_cons_zero, List.set_cons_succ] using this⟩
theorem CmAt.s3 {w : World} {b : Nat} {c : Cm} (h : CmAt w b c) (n : Int) : CmAt (w.setCell ⟨b, 3, none⟩ (.int .i8 n)) b { c with dy := n } :=
  ⟨by have := heap_set_same (i := 3) h.obj (.int .i8 n); simpa only [List.setIfInBounds_toArray, List.set_cons_zero, List.set_cons_succ] using this⟩
theorem CmAt.s4 {w : World} {b : Nat} {c : Cm} (h : CmAt w b c) (n : Int) : CmAt (w.setCell ⟨b, 4, none⟩ (.int .i64 n)) b { c with tk := n } :=
  ⟨by have := heap_set_same (i := 4) h.obj (.int .i64 n); simpa only [List.setIfInBounds_toArray, List.set_cons_zero, List.set_cons_succ] using this⟩
/-- A whole one stored. -/
theorem CmAt.all {w : World} {b : Nat} {c : Cm} (h : CmAt w b c) (q : Cm) : CmAt (((((w.setCell ⟨b, 0, none⟩ (.int .u16 q.sq)).setCell ⟨b, 1, none⟩ (.int .u8 q.bt)).setCell ⟨b, 2, none⟩ (.int .i8 q.dx)).setCell ⟨b, 3, none⟩ (.int .i8 q.dy)).setCell ⟨b, 4, none⟩ (.int .i64 q.tk)) b q := (((((h.s0 q.sq).s1 q.bt).s2 q.dx).s3 q.dy).s4 q.tk)
theorem CmAt.allFr (w : World) (b : Nat) (q : Cm) : Fr (fun k => k = b) w (((((w.setCell ⟨b, 0, none⟩ (.int .u16 q.sq)).setCell ⟨b, 1, none⟩ (.int .u8 q.bt)).setCell ⟨b, 2, none⟩ (.int .i8 q.dx)).setCell ⟨b, 3, none⟩ (.int .i8 q.dy)).setCell ⟨b, 4, none⟩ (.int .i64 q.tk)) := (((((Fr.refl (fun k => k = b) w).setCell (p := ⟨b, 0, none⟩) rfl _).setCell (p := ⟨b, 1, none⟩) rfl _).setCell (p := ⟨b, 2, none⟩) rfl _).setCell (p := ⟨b, 3, none⟩) rfl _).setCell (p := ⟨b, 4, none⟩) rfl _
theorem fr1 (w : World) (b o : Nat) (u : Value) : Fr (fun k => k = b) w (w.setCell ⟨b, o, none⟩ u) := (Fr.refl (fun k => k = b) w).setCell (p := ⟨b, o, none⟩) rfl _
theorem fr3 (w : World) (b o1 o2 o3 : Nat) (x y z : Value) : Fr (fun k => k = b) w (((w.setCell ⟨b, o1, none⟩ x).setCell ⟨b, o2, none⟩ y).setCell ⟨b, o3, none⟩ z) := (((Fr.refl (fun k => k = b) w).setCell (p := ⟨b, o1, none⟩) rfl _).setCell (p := ⟨b, o2, none⟩) rfl _).setCell (p := ⟨b, o3, none⟩) rfl _
theorem PlAt.pos {w : World} {b : Nat} {p : Pl} (h : PlAt w b p) (x y z : Int) : PlAt (((w.setCell ⟨b, 1, none⟩ (.int .i64 x)).setCell ⟨b, 2, none⟩ (.int .i64 y)).setCell ⟨b, 3, none⟩ (.int .i64 z)) b { p with px := x, py := y, pz := z } := ((h.s1 x).s2 y).s3 z
theorem PlAt.vel {w : World} {b : Nat} {p : Pl} (h : PlAt w b p) (x y z : Int) : PlAt (((w.setCell ⟨b, 4, none⟩ (.int .i64 x)).setCell ⟨b, 5, none⟩ (.int .i64 y)).setCell ⟨b, 6, none⟩ (.int .i64 z)) b { p with vx := x, vy := y, vz := z } := ((h.s4 x).s5 y).s6 z
def noPl : Pl := ⟨0, 0, 0, 0, 0, 0, 0, false, 0, 0, 0, 0, 0, 0, 0⟩
set_option maxHeartbeats 1000000 in
theorem walkAxesOf (x y z : Int) (w : World) : Calls Try.prog 21 #[.agg #[.int .i64 x, .int .i64 y, .int .i64 z]] w fun e w' => e = .returned (.agg #[.int .i64 x, .int .i64 y, .int .i64 z]) ∧ Below w.heap.size w w' := by
  go_enter Try.func21, Try.ntmps21
  go_wp2
  refine bodyPost_ret (v := .agg #[.int .i64 x, .int .i64 y, .int .i64 z]) ?_ rfl ⟨rfl, ((Below.refl _ _).alloc (Nat.le_refl _) _).alloc (by simp) _⟩
  simp [results, Try.results21, go_sem]
set_option maxHeartbeats 1000000 in
theorem walkVec (x y z : Int) (w : World) : Calls Try.prog 38 #[.agg #[.int .i64 x, .int .i64 y, .int .i64 z]] w fun e w' => e = .returned (.agg #[.int .i64 x, .int .i64 y, .int .i64 z]) ∧ Below w.heap.size w w' := by
  go_enter Try.func38, Try.ntmps38
  go_wp2
  refine bodyPost_ret (v := .agg #[.int .i64 x, .int .i64 y, .int .i64 z]) ?_ rfl ⟨rfl, ((Below.refl _ _).alloc (Nat.le_refl _) _).alloc (by simp) _⟩
  simp [results, Try.results38, go_sem]
theorem wrap8 {n : Nat} (h : n < 256) : IntKind.u8.wrap (n : Int) = n := by
  unfold IntKind.wrap
  simp [IntKind.signed, IntKind.bits]; omega
theorem bits8 (a b : Nat) : bits .and .u8 (a : Int) (b : Int) = (((a % 2 ^ 8) &&& (b % 2 ^ 8) : Nat) : Int) := by
  have e : bits .and .u8 (a : Int) (b : Int) = IntKind.u8.wrap (((BitVec.ofInt 8 (a : Int)) &&& (BitVec.ofInt 8 (b : Int))).toNat : Int) := rfl
  rw [e, BitVec.ofInt_natCast, BitVec.ofInt_natCast, BitVec.toNat_and, BitVec.toNat_ofNat, BitVec.toNat_ofNat]
  exact wrap8 (Nat.lt_of_le_of_lt Nat.and_le_left (Nat.mod_lt _ (by decide)))
theorem and_prs {b : Int} (k : Nat) (h0 : 0 ≤ b) (h1 : b < 256) (hk : k < 256) : ∃ n : Int, bits .and .u8 b (k : Int) = n ∧ (n != 0) = prs b (k : Int) ∧ (n == 0) = !prs b (k : Int) := by
  obtain ⟨n, rfl⟩ := Int.eq_ofNat_of_zero_le h0
  have hn : n < 256 := by omega
  refine ⟨((n &&& k : Nat) : Int), ?_, ?_⟩
  · rw [bits8, Nat.mod_eq_of_lt (show n < 2 ^ 8 from hn), Nat.mod_eq_of_lt (show k < 2 ^ 8 from hk)]
  · unfold prs
    have e : (((n : Int).toNat &&& (k : Int).toNat)) = (n &&& k) := rfl
    rw [e]
    by_cases h : n &&& k = 0
    · rw [h]; decide
    · have h' : ((n &&& k : Nat) : Int) ≠ 0 := by omega
      simp [h, h']
set_option maxHeartbeats 1000000 in
theorem walkPressed (c : Cm) (hc : c.Wf) (k : Nat) (hk : k < 256) (w : World) : Calls Try.prog 26 #[.agg #[.int .u16 c.sq, .int .u8 c.bt, .int .i8 c.dx, .int .i8 c.dy, .int .i64 c.tk], .int .u8 (k : Int)] w fun e w' => e = .returned (.bool (prs c.bt (k : Int))) ∧ Below w.heap.size w w' := by
  obtain ⟨n, hb, hn, _⟩ := and_prs k hc.b0 hc.b1 hk
  obtain ⟨K, hK⟩ : ∃ K : Int, (k : Int) = K := ⟨_, rfl⟩
  rw [hK] at hb hn ⊢
  clear hK
  go_enter Try.func26, Try.ntmps26
  go_wp2
  go_ret
  exact ⟨by rw [← hn]; rfl, (Below.refl _ _).alloc (Nat.le_refl _) _⟩
set_option maxHeartbeats 1000000 in
theorem refWants (d : Int) (h0 : -128 ≤ d) (h1 : d ≤ 127) (w : World) : Calls Try.prog 28 #[.int .i8 d] w fun e w' => e = .returned (.int .i64 (wnt d)) ∧ w' = w := by
  have e1 : IntKind.i64.wrap d = d := wrapI (by omega) (by omega)
  have e2 : IntKind.i64.wrap (d * 16384) = d * 16384 := wrapI (by omega) (by omega)
  have e3 : IntKind.i64.wrap ((d * 16384).tdiv 127) = (d * 16384).tdiv 127 := by have := wnt_near h0 h1; unfold wnt at this; exact wrapI (by omega) (by omega)
  go_enter Try.func28, Try.ntmps28
  go_wp2
  go_ret
  exact ⟨rfl, rfl⟩
theorem min_is' (a b : Int) : ∀ ts t W, (Builtin.min_ ts t #[.int .i64 a, .int .i64 b]).run Try.prog W = .ok (.int .i64 (min a b)) W := by
  intro ts t W
  have e : (if b < a then b else a) = min a b := by omega
  simp [Builtin.min_, Builtin.min2, e]
theorem max_is' (a b : Int) : ∀ ts t W, (Builtin.max_ ts t #[.int .i64 a, .int .i64 b]).run Try.prog W = .ok (.int .i64 (max a b)) W := by
  intro ts t W
  have e : (if a < b then b else a) = max a b := by omega
  simp [Builtin.max_, Builtin.max2, e]
theorem refCt (n : Int) (w : World) : Calls Try.prog 24 #[.int .i64 n] w fun e w' => e = .returned (.int .i64 (ct n)) ∧ w' = w := by
  have e1 := min_is' n 32768
  have e2 := max_is' (-32768) (min n 32768)
  go_enter Try.func24, Try.ntmps24
  go_wp2
  go_ret
  exact ⟨rfl, rfl⟩
end Go.Proofs.Ytjjdclckkhddbaa
