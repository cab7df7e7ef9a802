/- Layer 1 (fix): the walk of the law FixVectors. -/
import Derived.Test.YtfgbkmcbpmmfdaaFixMath
import Derived.Test.YtfgbkmcbpmmfdaaFixE
import Derived.Test.YtfgbkmcbpmmfdaaRefM
import Derived.Test.YtfgbkmcbpmmfdaaRefO
import Derived.Test.YtfgbkmcbpmmfdaaWalkE
namespace Go.Proofs.Ytfgbkmcbpmmfdaa
open Go.RowKit
set_option linter.unusedVariables false
attribute [local go_sem ↓] Go.wp_at_zero Go.wp_at_succ

set_option maxHeartbeats 4000000 in
theorem fixVectors_walk (a1 a2 a3 b1 b2 b3 n : Int) (h1 : I64 a1) (h2 : I64 a2) (h3 : I64 a3) (g1 : I64 b1) (g2 : I64 b2) (g3 : I64 b3) (hn : I64 n) (w : World) :
    Calls Try.prog 4 #[.agg #[.int .i64 a1, .int .i64 a2, .int .i64 a3], .agg #[.int .i64 b1, .int .i64 b2, .int .i64 b3], .int .i64 n] w fun e w' => e = .returned (.bool true) ∧ Below w.heap.size w w' := by
  have F1 := fixVecPlus a1 a2 a3 b1 b2 b3 h1 h2 h3 g1 g2 g3; have G1 := refVecPlus a1 a2 a3 b1 b2 b3 h1 h2 h3 g1 g2 g3
  have F2 := fixVecMinus a1 a2 a3 b1 b2 b3 h1 h2 h3 g1 g2 g3; have G2 := refVecMinus a1 a2 a3 b1 b2 b3 h1 h2 h3 g1 g2 g3
  have F3 := fixVecTimes a1 a2 a3 n h1 h2 h3 hn; have G3 := refVecTimes a1 a2 a3 n h1 h2 h3 hn
  have F4 := fixDot a1 a2 a3 b1 b2 b3 h1 h2 h3 g1 g2 g3; have G4 := refDot a1 a2 a3 b1 b2 b3 h1 h2 h3 g1 g2 g3
  have F5 := fixLong a1 a2 a3 h1 h2 h3; have G5 := refLong a1 a2 a3 h1 h2 h3
  have F6 := fixVecClamp a1 a2 a3 n h1 h2 h3 hn; have G6 := refVecClamp a1 a2 a3 n h1 h2 h3 hn
  generalize sat (a1 + b1) = p1 at F1 G1
  generalize sat (a2 + b2) = p2 at F1 G1
  generalize sat (a3 + b3) = p3 at F1 G1
  generalize sat (a1 - b1) = m1 at F2 G2
  generalize sat (a2 - b2) = m2 at F2 G2
  generalize sat (a3 - b3) = m3 at F2 G2
  generalize fmul a1 n = t1 at F3 G3
  generalize fmul a2 n = t2 at F3 G3
  generalize fmul a3 n = t3 at F3 G3
  generalize fdot a1 a2 a3 b1 b2 b3 = d at F4 G4
  generalize flong a1 a2 a3 = l at F5 G5
  generalize fclamp a1 (max n 0) = c1 at F6 G6
  generalize fclamp a2 (max n 0) = c2 at F6 G6
  generalize fclamp a3 (max n 0) = c3 at F6 G6
  have VA0 := (VBox.new w a1 a2 a3 27).alloc (.cells #[.int .i64 b1, .int .i64 b2, .int .i64 b3] 27)
  have VB0 := VBox.new (w.alloc (.cells #[.int .i64 a1, .int .i64 a2, .int .i64 a3] 27)) b1 b2 b3 27
  rw [World.size_alloc] at VB0
  have BB0 : Below w.heap.size w ((w.alloc (.cells #[.int .i64 a1, .int .i64 a2, .int .i64 a3] 27)).alloc (.cells #[.int .i64 b1, .int .i64 b2, .int .i64 b3] 27)) := ((Below.refl _ _).alloc (Nat.le_refl _) _).alloc (by simp) _
  go_enter Try.func4, Try.ntmps4
  go_wp2_with fail
  refine (shown_any _).mono ?_; rintro e w1 ⟨rfl, bel⟩
  have VA := VA0.keep bel; have VB := VB0.keep bel; have BB : Below w.heap.size w w1 := BB0.trans (bel.mono (by simp; omega))
  clear VA0 VB0 BB0 bel
  have hp := VA.lt; have hq := VB.lt
  have hs : VS w1 w.heap.size (w.heap.size + 1) a1 a2 a3 b1 b2 b3 w1 := ⟨VA.c0, VA.c1, VA.c2, VB.c0, VB.c1, VB.c2, Below.refl _ _⟩
  clear VA VB
  go_wp2_with fail
  go_region_held3 (fun W => W.cell? ⟨w.heap.size, 0, none⟩ = some (.int .i64 a1) ∧ W.cell? ⟨w.heap.size, 1, none⟩ = some (.int .i64 a2) ∧ W.cell? ⟨w.heap.size, 2, none⟩ = some (.int .i64 a3) ∧ W.cell? ⟨w.heap.size + 1, 0, none⟩ = some (.int .i64 b1) ∧ W.cell? ⟨w.heap.size + 1, 1, none⟩ = some (.int .i64 b2) ∧ W.cell? ⟨w.heap.size + 1, 2, none⟩ = some (.int .i64 b3) ∧ Below w1.heap.size w1 W)
    (first | assumption | exact VS.keep hp hq ((Below.refl _ _).drew) (by assumption) | exact VS.keep hp hq (by assumption) (by assumption))
    (first
      | (go_at_call 28; refine (F1 _).mono ?_; rintro e w2 ⟨rfl, bl⟩)
      | (go_at_call 29; refine (G1 _).mono ?_; rintro e w2 ⟨rfl, bl⟩)
      | (go_at_call 30; refine (F2 _).mono ?_; rintro e w2 ⟨rfl, bl⟩)
      | (go_at_call 31; refine (G2 _).mono ?_; rintro e w2 ⟨rfl, bl⟩)
      | (go_at_call 32; refine (F3 _).mono ?_; rintro e w2 ⟨rfl, bl⟩)
      | (go_at_call 33; refine (G3 _).mono ?_; rintro e w2 ⟨rfl, bl⟩)
      | (go_at_call 34; refine (F4 _).mono ?_; rintro e w2 ⟨rfl, bl⟩)
      | (go_at_call 35; refine (G4 _).mono ?_; rintro e w2 ⟨rfl, bl⟩)
      | (go_at_call 36; refine (F5 _).mono ?_; rintro e w2 ⟨rfl, bl⟩)
      | (go_at_call 37; refine (G5 _).mono ?_; rintro e w2 ⟨rfl, bl⟩)
      | (go_at_call 38; refine (F6 _).mono ?_; rintro e w2 ⟨rfl, bl⟩)
      | (go_at_call 39; refine (G6 _).mono ?_; rintro e w2 ⟨rfl, bl⟩))
  rename_i hs2
  clear hs
  go_wp2_with fail
  go_region_held3 (fun W => W.cell? ⟨w.heap.size, 0, none⟩ = some (.int .i64 a1) ∧ W.cell? ⟨w.heap.size, 1, none⟩ = some (.int .i64 a2) ∧ W.cell? ⟨w.heap.size, 2, none⟩ = some (.int .i64 a3) ∧ W.cell? ⟨w.heap.size + 1, 0, none⟩ = some (.int .i64 b1) ∧ W.cell? ⟨w.heap.size + 1, 1, none⟩ = some (.int .i64 b2) ∧ W.cell? ⟨w.heap.size + 1, 2, none⟩ = some (.int .i64 b3) ∧ Below w1.heap.size w1 W)
    (first | assumption | exact VS.keep hp hq ((Below.refl _ _).drew) (by assumption) | exact VS.keep hp hq (by assumption) (by assumption))
    (first
      | (go_at_call 28; refine (F1 _).mono ?_; rintro e w2 ⟨rfl, bl⟩)
      | (go_at_call 29; refine (G1 _).mono ?_; rintro e w2 ⟨rfl, bl⟩)
      | (go_at_call 30; refine (F2 _).mono ?_; rintro e w2 ⟨rfl, bl⟩)
      | (go_at_call 31; refine (G2 _).mono ?_; rintro e w2 ⟨rfl, bl⟩)
      | (go_at_call 32; refine (F3 _).mono ?_; rintro e w2 ⟨rfl, bl⟩)
      | (go_at_call 33; refine (G3 _).mono ?_; rintro e w2 ⟨rfl, bl⟩)
      | (go_at_call 34; refine (F4 _).mono ?_; rintro e w2 ⟨rfl, bl⟩)
      | (go_at_call 35; refine (G4 _).mono ?_; rintro e w2 ⟨rfl, bl⟩)
      | (go_at_call 36; refine (F5 _).mono ?_; rintro e w2 ⟨rfl, bl⟩)
      | (go_at_call 37; refine (G5 _).mono ?_; rintro e w2 ⟨rfl, bl⟩)
      | (go_at_call 38; refine (F6 _).mono ?_; rintro e w2 ⟨rfl, bl⟩)
      | (go_at_call 39; refine (G6 _).mono ?_; rintro e w2 ⟨rfl, bl⟩))
  rename_i hs3
  clear hs2
  go_wp2_with fail
  go_region_held3 (fun W => W.cell? ⟨w.heap.size, 0, none⟩ = some (.int .i64 a1) ∧ W.cell? ⟨w.heap.size, 1, none⟩ = some (.int .i64 a2) ∧ W.cell? ⟨w.heap.size, 2, none⟩ = some (.int .i64 a3) ∧ W.cell? ⟨w.heap.size + 1, 0, none⟩ = some (.int .i64 b1) ∧ W.cell? ⟨w.heap.size + 1, 1, none⟩ = some (.int .i64 b2) ∧ W.cell? ⟨w.heap.size + 1, 2, none⟩ = some (.int .i64 b3) ∧ Below w1.heap.size w1 W)
    (first | assumption | exact VS.keep hp hq ((Below.refl _ _).drew) (by assumption) | exact VS.keep hp hq (by assumption) (by assumption))
    (first
      | (go_at_call 28; refine (F1 _).mono ?_; rintro e w2 ⟨rfl, bl⟩)
      | (go_at_call 29; refine (G1 _).mono ?_; rintro e w2 ⟨rfl, bl⟩)
      | (go_at_call 30; refine (F2 _).mono ?_; rintro e w2 ⟨rfl, bl⟩)
      | (go_at_call 31; refine (G2 _).mono ?_; rintro e w2 ⟨rfl, bl⟩)
      | (go_at_call 32; refine (F3 _).mono ?_; rintro e w2 ⟨rfl, bl⟩)
      | (go_at_call 33; refine (G3 _).mono ?_; rintro e w2 ⟨rfl, bl⟩)
      | (go_at_call 34; refine (F4 _).mono ?_; rintro e w2 ⟨rfl, bl⟩)
      | (go_at_call 35; refine (G4 _).mono ?_; rintro e w2 ⟨rfl, bl⟩)
      | (go_at_call 36; refine (F5 _).mono ?_; rintro e w2 ⟨rfl, bl⟩)
      | (go_at_call 37; refine (G5 _).mono ?_; rintro e w2 ⟨rfl, bl⟩)
      | (go_at_call 38; refine (F6 _).mono ?_; rintro e w2 ⟨rfl, bl⟩)
      | (go_at_call 39; refine (G6 _).mono ?_; rintro e w2 ⟨rfl, bl⟩))
  rename_i hs4
  clear hs3
  have hB := btrans BB hs4.2.2.2.2.2.2
  clear hs4
  go_wp2
  go_ret
  exact ⟨rfl, hB⟩
end Go.Proofs.Ytfgbkmcbpmmfdaa
