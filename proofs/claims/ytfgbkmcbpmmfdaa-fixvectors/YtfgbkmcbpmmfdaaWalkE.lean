/- Layer 1 (fix): the walk of the law FixAxes. -/
import Derived.Test.YtfgbkmcbpmmfdaaFixMath
import Derived.Test.YtfgbkmcbpmmfdaaFixD
import Derived.Test.YtfgbkmcbpmmfdaaFixE
namespace Go.Proofs.Ytfgbkmcbpmmfdaa
open Go.RowKit
set_option linter.unusedVariables false
attribute [local go_sem ↓] Go.wp_at_zero Go.wp_at_succ

/-- A box of three numbers. -/
structure VBox (W : World) (b : Nat) (x y z : Int) : Prop where
  lt : b < W.heap.size
  c0 : W.cell? ⟨b, 0, none⟩ = some (.int .i64 x)
  c1 : W.cell? ⟨b, 1, none⟩ = some (.int .i64 y)
  c2 : W.cell? ⟨b, 2, none⟩ = some (.int .i64 z)
theorem VBox.keep {W w1 : World} {b : Nat} {x y z : Int} (h : VBox W b x y z) (hb : Below W.heap.size W w1) : VBox w1 b x y z :=
  ⟨Nat.lt_of_lt_of_le h.lt hb.size, keepCell hb h.lt h.c0, keepCell hb h.lt h.c1, keepCell hb h.lt h.c2⟩
theorem VBox.new (W : World) (x y z : Int) (t : TypeId) : VBox (W.alloc (.cells #[.int .i64 x, .int .i64 y, .int .i64 z] t)) W.heap.size x y z :=
  ⟨by simp, by simp [go_sem], by simp [go_sem], by simp [go_sem]⟩
theorem VBox.alloc {W : World} {b : Nat} {x y z : Int} (h : VBox W b x y z) (o : Obj) : VBox (W.alloc o) b x y z := h.keep ((Below.refl _ _).alloc (Nat.le_refl _) o)
theorem VBox.drew {W : World} {b : Nat} {x y z : Int} (h : VBox W b x y z) : VBox W.drew b x y z := ⟨h.lt, h.c0, h.c1, h.c2⟩
theorem VBox.three {W : World} {b c d : Nat} {x y z p q r u v s : Int} (h : VBox W b x y z) (k : VBox W c p q r) (l : VBox W d u v s) :
    W.cell? ⟨b, 0, none⟩ = some (.int .i64 x) ∧ W.cell? ⟨b, 1, none⟩ = some (.int .i64 y) ∧ W.cell? ⟨b, 2, none⟩ = some (.int .i64 z) ∧ W.cell? ⟨c, 0, none⟩ = some (.int .i64 p) ∧ W.cell? ⟨c, 1, none⟩ = some (.int .i64 q) ∧ W.cell? ⟨c, 2, none⟩ = some (.int .i64 r) ∧ W.cell? ⟨d, 0, none⟩ = some (.int .i64 u) ∧ W.cell? ⟨d, 1, none⟩ = some (.int .i64 v) ∧ W.cell? ⟨d, 2, none⟩ = some (.int .i64 s) :=
  ⟨h.c0, h.c1, h.c2, k.c0, k.c1, k.c2, l.c0, l.c1, l.c2⟩

theorem mulS {w X : World} {p q r s : Nat} {x y z a1 a2 a3 c1 c2 c3 u1 u2 u3 : Int} (h : VBox X p x y z ∧ VBox X q a1 a2 a3 ∧ VBox X r c1 c2 c3 ∧ VBox X s u1 u2 u3 ∧ Below w.heap.size w X) :
    X.cell? ⟨p, 0, none⟩ = some (.int .i64 x) ∧ X.cell? ⟨p, 1, none⟩ = some (.int .i64 y) ∧ X.cell? ⟨p, 2, none⟩ = some (.int .i64 z) ∧ X.cell? ⟨q, 0, none⟩ = some (.int .i64 a1) ∧ X.cell? ⟨q, 1, none⟩ = some (.int .i64 a2) ∧ X.cell? ⟨q, 2, none⟩ = some (.int .i64 a3) ∧
    (VBox X r c1 c2 c3 ∧ VBox X s u1 u2 u3 ∧ VBox X p x y z ∧ VBox X q a1 a2 a3 ∧ Below w.heap.size w X) :=
  ⟨h.1.c0, h.1.c1, h.1.c2, h.2.1.c0, h.2.1.c1, h.2.1.c2, h.2.2.1, h.2.2.2.1, h.1, h.2.1, h.2.2.2.2⟩
theorem mulK {w X Y : World} {p q r s : Nat} {x y z a1 a2 a3 c1 c2 c3 u1 u2 u3 : Int} (hb : Below X.heap.size X Y)
    (h : X.cell? ⟨p, 0, none⟩ = some (.int .i64 x) ∧ X.cell? ⟨p, 1, none⟩ = some (.int .i64 y) ∧ X.cell? ⟨p, 2, none⟩ = some (.int .i64 z) ∧ X.cell? ⟨q, 0, none⟩ = some (.int .i64 a1) ∧ X.cell? ⟨q, 1, none⟩ = some (.int .i64 a2) ∧ X.cell? ⟨q, 2, none⟩ = some (.int .i64 a3) ∧
    (VBox X r c1 c2 c3 ∧ VBox X s u1 u2 u3 ∧ VBox X p x y z ∧ VBox X q a1 a2 a3 ∧ Below w.heap.size w X)) :
    Y.cell? ⟨p, 0, none⟩ = some (.int .i64 x) ∧ Y.cell? ⟨p, 1, none⟩ = some (.int .i64 y) ∧ Y.cell? ⟨p, 2, none⟩ = some (.int .i64 z) ∧ Y.cell? ⟨q, 0, none⟩ = some (.int .i64 a1) ∧ Y.cell? ⟨q, 1, none⟩ = some (.int .i64 a2) ∧ Y.cell? ⟨q, 2, none⟩ = some (.int .i64 a3) ∧
    (VBox Y r c1 c2 c3 ∧ VBox Y s u1 u2 u3 ∧ VBox Y p x y z ∧ VBox Y q a1 a2 a3 ∧ Below w.heap.size w Y) := by
  obtain ⟨_, _, _, _, _, _, h1, h2, h3, h4, h5⟩ := h
  exact mulS ⟨h3.keep hb, h4.keep hb, h1.keep hb, h2.keep hb, btrans h5 hb⟩

set_option maxRecDepth 100000 in
set_option maxHeartbeats 20000000 in
theorem fixAxes_walk (a1 a2 a3 b1 b2 b3 n : Int) (h1 : I64 a1) (h2 : I64 a2) (h3 : I64 a3) (g1 : I64 b1) (g2 : I64 b2) (g3 : I64 b3) (hn : I64 n) (w : World) :
    Calls Try.prog 12 #[.agg #[.int .i64 a1, .int .i64 a2, .int .i64 a3], .agg #[.int .i64 b1, .int .i64 b2, .int .i64 b3], .int .i64 n] w fun e w' => e = .returned (.bool true) ∧ Below w.heap.size w w' := by
  have VA0 := (VBox.new w a1 a2 a3 27).alloc (.cells #[.int .i64 b1, .int .i64 b2, .int .i64 b3] 27)
  have VB0 := VBox.new (w.alloc (.cells #[.int .i64 a1, .int .i64 a2, .int .i64 a3] 27)) b1 b2 b3 27
  rw [World.size_alloc] at VB0
  have BB0 : Below w.heap.size w ((w.alloc (.cells #[.int .i64 a1, .int .i64 a2, .int .i64 a3] 27)).alloc (.cells #[.int .i64 b1, .int .i64 b2, .int .i64 b3] 27)) := ((Below.refl _ _).alloc (Nat.le_refl _) _).alloc (by simp) _
  go_enter Try.func12, Try.ntmps12
  go_wp2_with fail
  refine (shown_any _).mono ?_; rintro e w1 ⟨rfl, bel⟩
  have VA := VA0.keep bel; have VB := VB0.keep bel; have BB : Below w.heap.size w w1 := BB0.trans (bel.mono (by simp; omega))
  clear VA0 VB0 BB0 bel
  have x10 := VA.c0; have x11 := VA.c1; have x12 := VA.c2
  have x20 := VB.c0; have x21 := VB.c1; have x22 := VB.c2
  go_wp2_with fail
  clear x10 x11 x12 x20 x21 x22
  refine (fixVecPlus a1 a2 a3 b1 b2 b3 h1 h2 h3 g1 g2 g3 _).mono ?_; rintro e w2 ⟨rfl, bel⟩
  have VA := VA.keep bel; have VB := VB.keep bel
  have BB : Below w.heap.size w w2 := btrans BB bel
  clear bel
  have VA := VA.alloc (.cells #[.int .i64 (sat (a1 + b1)), .int .i64 (sat (a2 + b2)), .int .i64 (sat (a3 + b3))] 27); have VB := VB.alloc (.cells #[.int .i64 (sat (a1 + b1)), .int .i64 (sat (a2 + b2)), .int .i64 (sat (a3 + b3))] 27)
  have VP := VBox.new w2 (sat (a1 + b1)) (sat (a2 + b2)) (sat (a3 + b3)) 27
  have BB : Below w.heap.size w (w2.alloc (.cells #[.int .i64 (sat (a1 + b1)), .int .i64 (sat (a2 + b2)), .int .i64 (sat (a3 + b3))] 27)) := BB.alloc BB.size _
  have x10 := VA.c0; have x11 := VA.c1; have x12 := VA.c2
  have x20 := VB.c0; have x21 := VB.c1; have x22 := VB.c2
  go_wp2_with fail
  clear x10 x11 x12 x20 x21 x22
  refine (fixVecMinus a1 a2 a3 b1 b2 b3 h1 h2 h3 g1 g2 g3 _).mono ?_; rintro e w3 ⟨rfl, bel⟩
  have VA := VA.keep bel; have VB := VB.keep bel; have VP := VP.keep bel
  have BB : Below w.heap.size w w3 := btrans BB bel
  clear bel
  have VA := VA.alloc (.cells #[.int .i64 (sat (a1 - b1)), .int .i64 (sat (a2 - b2)), .int .i64 (sat (a3 - b3))] 27); have VB := VB.alloc (.cells #[.int .i64 (sat (a1 - b1)), .int .i64 (sat (a2 - b2)), .int .i64 (sat (a3 - b3))] 27); have VP := VP.alloc (.cells #[.int .i64 (sat (a1 - b1)), .int .i64 (sat (a2 - b2)), .int .i64 (sat (a3 - b3))] 27)
  have VM := VBox.new w3 (sat (a1 - b1)) (sat (a2 - b2)) (sat (a3 - b3)) 27
  have BB : Below w.heap.size w (w3.alloc (.cells #[.int .i64 (sat (a1 - b1)), .int .i64 (sat (a2 - b2)), .int .i64 (sat (a3 - b3))] 27)) := BB.alloc BB.size _
  have x10 := VA.c0; have x11 := VA.c1; have x12 := VA.c2
  have x20 := VB.c0; have x21 := VB.c1; have x22 := VB.c2
  go_wp2_with fail
  clear x10 x11 x12 x20 x21 x22
  refine (fixVecTimes a1 a2 a3 n h1 h2 h3 hn _).mono ?_; rintro e w4 ⟨rfl, bel⟩
  have VA := VA.keep bel; have VB := VB.keep bel; have VP := VP.keep bel; have VM := VM.keep bel
  have BB : Below w.heap.size w w4 := btrans BB bel
  clear bel
  have VA := VA.alloc (.cells #[.int .i64 (fmul a1 n), .int .i64 (fmul a2 n), .int .i64 (fmul a3 n)] 27); have VB := VB.alloc (.cells #[.int .i64 (fmul a1 n), .int .i64 (fmul a2 n), .int .i64 (fmul a3 n)] 27); have VP := VP.alloc (.cells #[.int .i64 (fmul a1 n), .int .i64 (fmul a2 n), .int .i64 (fmul a3 n)] 27); have VM := VM.alloc (.cells #[.int .i64 (fmul a1 n), .int .i64 (fmul a2 n), .int .i64 (fmul a3 n)] 27)
  have VT := VBox.new w4 (fmul a1 n) (fmul a2 n) (fmul a3 n) 27
  have BB : Below w.heap.size w (w4.alloc (.cells #[.int .i64 (fmul a1 n), .int .i64 (fmul a2 n), .int .i64 (fmul a3 n)] 27)) := BB.alloc BB.size _
  have x10 := VA.c0; have x11 := VA.c1; have x12 := VA.c2
  have x20 := VB.c0; have x21 := VB.c1; have x22 := VB.c2
  go_wp2_with fail
  clear x10 x11 x12 x20 x21 x22
  refine (fixVecClamp a1 a2 a3 n h1 h2 h3 hn _).mono ?_; rintro e w5 ⟨rfl, bel⟩
  have VA := VA.keep bel; have VB := VB.keep bel; have VP := VP.keep bel; have VM := VM.keep bel; have VT := VT.keep bel
  have BB : Below w.heap.size w w5 := btrans BB bel
  clear bel
  have VA := VA.alloc (.cells #[.int .i64 (fclamp a1 (max n 0)), .int .i64 (fclamp a2 (max n 0)), .int .i64 (fclamp a3 (max n 0))] 27); have VB := VB.alloc (.cells #[.int .i64 (fclamp a1 (max n 0)), .int .i64 (fclamp a2 (max n 0)), .int .i64 (fclamp a3 (max n 0))] 27); have VP := VP.alloc (.cells #[.int .i64 (fclamp a1 (max n 0)), .int .i64 (fclamp a2 (max n 0)), .int .i64 (fclamp a3 (max n 0))] 27); have VM := VM.alloc (.cells #[.int .i64 (fclamp a1 (max n 0)), .int .i64 (fclamp a2 (max n 0)), .int .i64 (fclamp a3 (max n 0))] 27); have VT := VT.alloc (.cells #[.int .i64 (fclamp a1 (max n 0)), .int .i64 (fclamp a2 (max n 0)), .int .i64 (fclamp a3 (max n 0))] 27)
  have VC := VBox.new w5 (fclamp a1 (max n 0)) (fclamp a2 (max n 0)) (fclamp a3 (max n 0)) 27
  have BB : Below w.heap.size w (w5.alloc (.cells #[.int .i64 (fclamp a1 (max n 0)), .int .i64 (fclamp a2 (max n 0)), .int .i64 (fclamp a3 (max n 0))] 27)) := BB.alloc BB.size _
  have x10 := VA.c0; have x11 := VA.c1; have x12 := VA.c2
  have x20 := VB.c0; have x21 := VB.c1; have x22 := VB.c2
  go_wp2_with fail
  clear x10 x11 x12 x20 x21 x22
  refine (fixVecClamp a3 a1 a2 n h3 h1 h2 hn _).mono ?_; rintro e w6 ⟨rfl, bel⟩
  have VA := VA.keep bel; have VB := VB.keep bel; have VP := VP.keep bel; have VM := VM.keep bel; have VT := VT.keep bel; have VC := VC.keep bel
  have BB : Below w.heap.size w w6 := btrans BB bel
  clear bel
  have VA := VA.alloc (.cells #[.int .i64 (fclamp a3 (max n 0)), .int .i64 (fclamp a1 (max n 0)), .int .i64 (fclamp a2 (max n 0))] 27); have VB := VB.alloc (.cells #[.int .i64 (fclamp a3 (max n 0)), .int .i64 (fclamp a1 (max n 0)), .int .i64 (fclamp a2 (max n 0))] 27); have VP := VP.alloc (.cells #[.int .i64 (fclamp a3 (max n 0)), .int .i64 (fclamp a1 (max n 0)), .int .i64 (fclamp a2 (max n 0))] 27); have VM := VM.alloc (.cells #[.int .i64 (fclamp a3 (max n 0)), .int .i64 (fclamp a1 (max n 0)), .int .i64 (fclamp a2 (max n 0))] 27); have VT := VT.alloc (.cells #[.int .i64 (fclamp a3 (max n 0)), .int .i64 (fclamp a1 (max n 0)), .int .i64 (fclamp a2 (max n 0))] 27); have VC := VC.alloc (.cells #[.int .i64 (fclamp a3 (max n 0)), .int .i64 (fclamp a1 (max n 0)), .int .i64 (fclamp a2 (max n 0))] 27)
  have VU := VBox.new w6 (fclamp a3 (max n 0)) (fclamp a1 (max n 0)) (fclamp a2 (max n 0)) 27
  have BB : Below w.heap.size w (w6.alloc (.cells #[.int .i64 (fclamp a3 (max n 0)), .int .i64 (fclamp a1 (max n 0)), .int .i64 (fclamp a2 (max n 0))] 27)) := BB.alloc BB.size _
  go_wp2_with fail
  generalize (w6.alloc (.cells #[.int .i64 (fclamp a3 (max n 0)), .int .i64 (fclamp a1 (max n 0)), .int .i64 (fclamp a2 (max n 0))] 27)) = W at *
  have R7 := VBox.three VP.drew VA.drew VB.drew
  go_region_held3 (fun X => X.cell? ⟨w2.heap.size, 0, none⟩ = some (.int .i64 (sat (a1 + b1))) ∧ X.cell? ⟨w2.heap.size, 1, none⟩ = some (.int .i64 (sat (a2 + b2))) ∧ X.cell? ⟨w2.heap.size, 2, none⟩ = some (.int .i64 (sat (a3 + b3))) ∧ X.cell? ⟨w.heap.size, 0, none⟩ = some (.int .i64 (a1)) ∧ X.cell? ⟨w.heap.size, 1, none⟩ = some (.int .i64 (a2)) ∧ X.cell? ⟨w.heap.size, 2, none⟩ = some (.int .i64 (a3)) ∧ X.cell? ⟨w.heap.size + 1, 0, none⟩ = some (.int .i64 (b1)) ∧ X.cell? ⟨w.heap.size + 1, 1, none⟩ = some (.int .i64 (b2)) ∧ X.cell? ⟨w.heap.size + 1, 2, none⟩ = some (.int .i64 (b3))) (assumption)
    ((go_at_call 16; refine (fixAdd _ _ (by assumption) (by assumption) _).mono ?_; rintro e w' ⟨rfl, rfl⟩))
  clear R7
  go_wp2_with fail
  have R8 := VBox.three VM.drew.drew VA.drew.drew VB.drew.drew
  go_region_held3 (fun X => X.cell? ⟨w3.heap.size, 0, none⟩ = some (.int .i64 (sat (a1 - b1))) ∧ X.cell? ⟨w3.heap.size, 1, none⟩ = some (.int .i64 (sat (a2 - b2))) ∧ X.cell? ⟨w3.heap.size, 2, none⟩ = some (.int .i64 (sat (a3 - b3))) ∧ X.cell? ⟨w.heap.size, 0, none⟩ = some (.int .i64 (a1)) ∧ X.cell? ⟨w.heap.size, 1, none⟩ = some (.int .i64 (a2)) ∧ X.cell? ⟨w.heap.size, 2, none⟩ = some (.int .i64 (a3)) ∧ X.cell? ⟨w.heap.size + 1, 0, none⟩ = some (.int .i64 (b1)) ∧ X.cell? ⟨w.heap.size + 1, 1, none⟩ = some (.int .i64 (b2)) ∧ X.cell? ⟨w.heap.size + 1, 2, none⟩ = some (.int .i64 (b3))) (assumption)
    ((go_at_call 18; refine (fixSub _ _ (by assumption) (by assumption) _).mono ?_; rintro e w' ⟨rfl, rfl⟩))
  clear R8
  go_wp2_with fail
  have Q0 : VBox W.drew.drew.drew w4.heap.size (fmul a1 n) (fmul a2 n) (fmul a3 n) ∧ VBox W.drew.drew.drew w.heap.size a1 a2 a3 ∧ VBox W.drew.drew.drew w5.heap.size (fclamp a1 (max n 0)) (fclamp a2 (max n 0)) (fclamp a3 (max n 0)) ∧ VBox W.drew.drew.drew w6.heap.size (fclamp a3 (max n 0)) (fclamp a1 (max n 0)) (fclamp a2 (max n 0)) ∧ Below w.heap.size w W.drew.drew.drew :=
    ⟨VT.drew.drew.drew, VA.drew.drew.drew, VC.drew.drew.drew, VU.drew.drew.drew, BB.drew.drew.drew⟩
  have R9 := mulS Q0
  go_region_held3 (fun X => X.cell? ⟨w4.heap.size, 0, none⟩ = some (.int .i64 (fmul a1 n)) ∧ X.cell? ⟨w4.heap.size, 1, none⟩ = some (.int .i64 (fmul a2 n)) ∧ X.cell? ⟨w4.heap.size, 2, none⟩ = some (.int .i64 (fmul a3 n)) ∧ X.cell? ⟨w.heap.size, 0, none⟩ = some (.int .i64 (a1)) ∧ X.cell? ⟨w.heap.size, 1, none⟩ = some (.int .i64 (a2)) ∧ X.cell? ⟨w.heap.size, 2, none⟩ = some (.int .i64 (a3)) ∧ (VBox X w5.heap.size (fclamp a1 (max n 0)) (fclamp a2 (max n 0)) (fclamp a3 (max n 0)) ∧ VBox X w6.heap.size (fclamp a3 (max n 0)) (fclamp a1 (max n 0)) (fclamp a2 (max n 0)) ∧ VBox X w4.heap.size (fmul a1 n) (fmul a2 n) (fmul a3 n) ∧ VBox X w.heap.size a1 a2 a3 ∧ Below w.heap.size w X))
    (first | assumption | exact mulK (by assumption) (by assumption))
    ((go_at_call 22; refine (fixMul _ _ (by assumption) hn _).mono ?_; rintro e w' ⟨rfl, bel'⟩))
  rename_i hR
  obtain ⟨_, _, _, _, _, _, VC, VU, _, _, BB⟩ := hR
  have x10 := VC.c0; have x11 := VC.c1; have x12 := VC.c2
  have x20 := VU.c0; have x21 := VU.c1; have x22 := VU.c2
  go_wp2
  go_ret
  exact ⟨rfl, BB⟩
end Go.Proofs.Ytfgbkmcbpmmfdaa
