/- Layer 1 (fix): the walk of the law FixTurned. -/
import Derived.Test.YtfgbkmcbpmmfdaaFixMath2
import Derived.Test.YtfgbkmcbpmmfdaaFixK
import Derived.Test.YtfgbkmcbpmmfdaaFixD
import Derived.Test.YtfgbkmcbpmmfdaaFixE
namespace Go.Proofs.Ytfgbkmcbpmmfdaa
open Go.RowKit
set_option linter.unusedVariables false
attribute [local go_sem ↓] Go.wp_at_zero Go.wp_at_succ

/-! What a call answers, under a name that the walk does not open. -/
structure AddIs (x y n : Int) : Prop where
  eq : sat (x + y) = n
structure MulIs (x y n : Int) : Prop where
  eq : fmul x y = n
structure PlusIs (x1 x2 x3 y1 y2 y3 p1 p2 p3 : Int) : Prop where
  e1 : sat (x1 + y1) = p1
  e2 : sat (x2 + y2) = p2
  e3 : sat (x3 + y3) = p3
structure MinusIs (x1 x2 x3 y1 y2 y3 p1 p2 p3 : Int) : Prop where
  e1 : sat (x1 - y1) = p1
  e2 : sat (x2 - y2) = p2
  e3 : sat (x3 - y3) = p3
structure TimesIs (x1 x2 x3 n p1 p2 p3 : Int) : Prop where
  e1 : fmul x1 n = p1
  e2 : fmul x2 n = p2
  e3 : fmul x3 n = p3
structure ProdIs (x1 x2 x3 y1 y2 y3 n : Int) : Prop where
  eq : fdot x1 x2 x3 y1 y2 y3 = n
theorem addT (x y n : Int) (hx : I64 x) (hy : I64 y) (h : AddIs x y n) (w : World) : Calls Try.prog 16 #[.int .i64 x, .int .i64 y] w fun e w' => e = .returned (.int .i64 n) ∧ Below w.heap.size w w' := by
  have := addFn x y hx hy w; rw [h.eq] at this; exact this
theorem mulT (x y n : Int) (hx : I64 x) (hy : I64 y) (h : MulIs x y n) (w : World) : Calls Try.prog 22 #[.int .i64 x, .int .i64 y] w fun e w' => e = .returned (.int .i64 n) ∧ Below w.heap.size w w' := by
  have := fixMul x y hx hy w; rw [h.eq] at this; exact this
theorem plusT (x1 x2 x3 y1 y2 y3 p1 p2 p3 : Int) (h1 : I64 x1) (h2 : I64 x2) (h3 : I64 x3) (g1 : I64 y1) (g2 : I64 y2) (g3 : I64 y3) (h : PlusIs x1 x2 x3 y1 y2 y3 p1 p2 p3) (w : World) :
    Calls Try.prog 28 #[.agg #[.int .i64 x1, .int .i64 x2, .int .i64 x3], .agg #[.int .i64 y1, .int .i64 y2, .int .i64 y3]] w fun e w' => e = .returned (.agg #[.int .i64 p1, .int .i64 p2, .int .i64 p3]) ∧ Below w.heap.size w w' := by
  have := fixVecPlus x1 x2 x3 y1 y2 y3 h1 h2 h3 g1 g2 g3 w; rw [h.e1, h.e2, h.e3] at this; exact this
theorem minusT (x1 x2 x3 y1 y2 y3 p1 p2 p3 : Int) (h1 : I64 x1) (h2 : I64 x2) (h3 : I64 x3) (g1 : I64 y1) (g2 : I64 y2) (g3 : I64 y3) (h : MinusIs x1 x2 x3 y1 y2 y3 p1 p2 p3) (w : World) :
    Calls Try.prog 30 #[.agg #[.int .i64 x1, .int .i64 x2, .int .i64 x3], .agg #[.int .i64 y1, .int .i64 y2, .int .i64 y3]] w fun e w' => e = .returned (.agg #[.int .i64 p1, .int .i64 p2, .int .i64 p3]) ∧ Below w.heap.size w w' := by
  have := fixVecMinus x1 x2 x3 y1 y2 y3 h1 h2 h3 g1 g2 g3 w; rw [h.e1, h.e2, h.e3] at this; exact this
theorem timesT (x1 x2 x3 n p1 p2 p3 : Int) (h1 : I64 x1) (h2 : I64 x2) (h3 : I64 x3) (hn : I64 n) (h : TimesIs x1 x2 x3 n p1 p2 p3) (w : World) :
    Calls Try.prog 32 #[.agg #[.int .i64 x1, .int .i64 x2, .int .i64 x3], .int .i64 n] w fun e w' => e = .returned (.agg #[.int .i64 p1, .int .i64 p2, .int .i64 p3]) ∧ Below w.heap.size w w' := by
  have := fixVecTimes x1 x2 x3 n h1 h2 h3 hn w; rw [h.e1, h.e2, h.e3] at this; exact this
theorem prodT (x1 x2 x3 y1 y2 y3 n : Int) (h1 : I64 x1) (h2 : I64 x2) (h3 : I64 x3) (g1 : I64 y1) (g2 : I64 y2) (g3 : I64 y3) (h : ProdIs x1 x2 x3 y1 y2 y3 n) (w : World) :
    Calls Try.prog 34 #[.agg #[.int .i64 x1, .int .i64 x2, .int .i64 x3], .agg #[.int .i64 y1, .int .i64 y2, .int .i64 y3]] w fun e w' => e = .returned (.int .i64 n) ∧ Below w.heap.size w w' := by
  have := fixDot x1 x2 x3 y1 y2 y3 h1 h2 h3 g1 g2 g3 w; rw [h.eq] at this; exact this

theorem keepW {w W w3 : World} {a1 a2 a3 c1 c2 c3 : Int} (hb : Below W.heap.size W w3)
    (h : w.heap.size + 1 < W.heap.size ∧ W.cell? ⟨w.heap.size, 0, none⟩ = some (.int .i64 a1) ∧ W.cell? ⟨w.heap.size, 1, none⟩ = some (.int .i64 a2) ∧ W.cell? ⟨w.heap.size, 2, none⟩ = some (.int .i64 a3) ∧ W.cell? ⟨w.heap.size + 1, 0, none⟩ = some (.int .i64 c1) ∧ W.cell? ⟨w.heap.size + 1, 1, none⟩ = some (.int .i64 c2) ∧ W.cell? ⟨w.heap.size + 1, 2, none⟩ = some (.int .i64 c3) ∧ Below w.heap.size w W) :
    w.heap.size + 1 < w3.heap.size ∧ w3.cell? ⟨w.heap.size, 0, none⟩ = some (.int .i64 a1) ∧ w3.cell? ⟨w.heap.size, 1, none⟩ = some (.int .i64 a2) ∧ w3.cell? ⟨w.heap.size, 2, none⟩ = some (.int .i64 a3) ∧ w3.cell? ⟨w.heap.size + 1, 0, none⟩ = some (.int .i64 c1) ∧ w3.cell? ⟨w.heap.size + 1, 1, none⟩ = some (.int .i64 c2) ∧ w3.cell? ⟨w.heap.size + 1, 2, none⟩ = some (.int .i64 c3) ∧ Below w.heap.size w w3 := by
  obtain ⟨h0, h1, h2, h3, h4, h5, h6, h7⟩ := h
  exact ⟨Nat.lt_of_lt_of_le h0 hb.size, keepCell hb (by omega) h1, keepCell hb (by omega) h2, keepCell hb (by omega) h3, keepCell hb (by omega) h4, keepCell hb (by omega) h5, keepCell hb (by omega) h6, h7.trans (hb.mono (by omega))⟩

set_option maxRecDepth 100000 in
set_option maxHeartbeats 20000000 in
theorem fixTurned_walk (a b u1 u2 u3 v1 v2 v3 : Int) (ha : I64 a) (hb : I64 b) (h1 : I64 u1) (h2 : I64 u2) (h3 : I64 u3) (g1 : I64 v1) (g2 : I64 v2) (g3 : I64 v3) (w : World) :
    Calls Try.prog 5 #[.int .i64 a, .int .i64 b, .agg #[.int .i64 u1, .int .i64 u2, .int .i64 u3], .agg #[.int .i64 v1, .int .i64 v2, .int .i64 v3]] w fun e w' => e = .returned (.bool true) ∧ Below w.heap.size w w' := by
  have hS : w.heap.size + 1 < ((w.alloc (.cells #[.int .i64 u1, .int .i64 u2, .int .i64 u3] 27)).alloc (.cells #[.int .i64 v1, .int .i64 v2, .int .i64 v3] 27)).heap.size ∧ ((w.alloc (.cells #[.int .i64 u1, .int .i64 u2, .int .i64 u3] 27)).alloc (.cells #[.int .i64 v1, .int .i64 v2, .int .i64 v3] 27)).cell? ⟨w.heap.size, 0, none⟩ = some (.int .i64 u1) ∧ ((w.alloc (.cells #[.int .i64 u1, .int .i64 u2, .int .i64 u3] 27)).alloc (.cells #[.int .i64 v1, .int .i64 v2, .int .i64 v3] 27)).cell? ⟨w.heap.size, 1, none⟩ = some (.int .i64 u2) ∧ ((w.alloc (.cells #[.int .i64 u1, .int .i64 u2, .int .i64 u3] 27)).alloc (.cells #[.int .i64 v1, .int .i64 v2, .int .i64 v3] 27)).cell? ⟨w.heap.size, 2, none⟩ = some (.int .i64 u3) ∧ ((w.alloc (.cells #[.int .i64 u1, .int .i64 u2, .int .i64 u3] 27)).alloc (.cells #[.int .i64 v1, .int .i64 v2, .int .i64 v3] 27)).cell? ⟨w.heap.size + 1, 0, none⟩ = some (.int .i64 v1) ∧ ((w.alloc (.cells #[.int .i64 u1, .int .i64 u2, .int .i64 u3] 27)).alloc (.cells #[.int .i64 v1, .int .i64 v2, .int .i64 v3] 27)).cell? ⟨w.heap.size + 1, 1, none⟩ = some (.int .i64 v2) ∧ ((w.alloc (.cells #[.int .i64 u1, .int .i64 u2, .int .i64 u3] 27)).alloc (.cells #[.int .i64 v1, .int .i64 v2, .int .i64 v3] 27)).cell? ⟨w.heap.size + 1, 2, none⟩ = some (.int .i64 v3) ∧ Below w.heap.size w ((w.alloc (.cells #[.int .i64 u1, .int .i64 u2, .int .i64 u3] 27)).alloc (.cells #[.int .i64 v1, .int .i64 v2, .int .i64 v3] 27)) :=
    ⟨by simp, by simp [go_sem], by simp [go_sem], by simp [go_sem], by simp [go_sem], by simp [go_sem], by simp [go_sem], ((Below.refl _ _).alloc (Nat.le_refl _) _).alloc (by simp) _⟩
  have i0 : I64 0 := i64_of
  have i1 : I64 65536 := i64_of
  have F1 : AddIs a 0 a := ⟨by rw [Int.add_zero]; exact sat_id ha⟩
  have F2 : MulIs a 65536 a := ⟨fmul_one ha⟩
  have F3 : MulIs a 0 0 := ⟨fmul_nought a⟩
  have F4 : Hid (fdiv a 65536 = a) := fdiv_one ha
  have F5 : Hid (sat (a - 0) = a) := by show sat (a - 0) = a; rw [Int.sub_zero]; exact sat_id ha
  obtain ⟨s, es⟩ : ∃ s, sat (a + b) = s := ⟨_, rfl⟩
  have F6 : AddIs a b s := ⟨es⟩
  have F7 : AddIs b a s := ⟨by rw [Int.add_comm]; exact es⟩
  obtain ⟨m, em⟩ : ∃ m, fmul a b = m := ⟨_, rfl⟩
  have F8 : MulIs a b m := ⟨em⟩
  have F9 : MulIs b a m := ⟨by rw [fmul_comm]; exact em⟩
  obtain ⟨p1, ep1⟩ : ∃ p1, sat (u1 + v1) = p1 := ⟨_, rfl⟩
  obtain ⟨p2, ep2⟩ : ∃ p2, sat (u2 + v2) = p2 := ⟨_, rfl⟩
  obtain ⟨p3, ep3⟩ : ∃ p3, sat (u3 + v3) = p3 := ⟨_, rfl⟩
  have G1 : PlusIs u1 u2 u3 v1 v2 v3 p1 p2 p3 := ⟨ep1, ep2, ep3⟩
  have G2 : PlusIs v1 v2 v3 u1 u2 u3 p1 p2 p3 := ⟨by rw [Int.add_comm]; exact ep1, by rw [Int.add_comm]; exact ep2, by rw [Int.add_comm]; exact ep3⟩
  obtain ⟨d, ed⟩ : ∃ d, fdot u1 u2 u3 v1 v2 v3 = d := ⟨_, rfl⟩
  have G3 : ProdIs u1 u2 u3 v1 v2 v3 d := ⟨ed⟩
  have G4 : ProdIs v1 v2 v3 u1 u2 u3 d := ⟨by rw [fdot_comm]; exact ed⟩
  have G5 : TimesIs u1 u2 u3 65536 u1 u2 u3 := ⟨fmul_one h1, fmul_one h2, fmul_one h3⟩
  have G6 : MinusIs u1 u2 u3 u1 u2 u3 0 0 0 := ⟨by rw [Int.sub_self]; rfl, by rw [Int.sub_self]; rfl, by rw [Int.sub_self]; rfl⟩
  have G7 : ProdIs u1 u2 u3 0 0 0 0 := ⟨fdot_nought u1 u2 u3⟩
  clear es em ep1 ep2 ep3 ed
  have q1 := vecEq_run p1 p2 p3 p1 p2 p3 true (by simp)
  have q2 := vecEq_run u1 u2 u3 u1 u2 u3 true (by simp)
  have q3 := vecEq_run 0 0 0 0 0 0 true (by simp)
  go_enter Try.func5, Try.ntmps5
  go_wp2_with fail
  refine (shown_any _).mono ?_; rintro e w1 ⟨rfl, bel⟩
  have hS := keepW bel hS
  clear bel
  go_wp2_with fail
  refine (addT a 0 a ha i0 F1 _).mono ?_; rintro e w2 ⟨rfl, bel⟩
  have hS := keepW bel hS
  clear bel
  go_wp2_with fail
  refine (mulT a 65536 a ha i1 F2 _).mono ?_; rintro e w3 ⟨rfl, bel⟩
  have hS := keepW bel hS
  clear bel
  go_wp2_with fail
  refine (mulT a 0 0 ha i0 F3 _).mono ?_; rintro e w4 ⟨rfl, bel⟩
  have hS := keepW bel hS
  clear bel
  go_wp2_with fail
  refine (fixDiv a 65536 ha i1 _).mono ?_; rintro e w5 ⟨rfl, bel⟩
  rw [F4.out]
  have hS := keepW bel hS
  clear bel
  go_wp2_with fail
  refine (subFn a 0 ha i0 _).mono ?_; rintro e w6 ⟨rfl, bel⟩
  rw [F5.out]
  have hS := keepW bel hS
  have hS := keepW ((Below.refl _ w6).drew) hS
  clear bel
  go_wp2_with fail
  go_region_held3 (fun W => w.heap.size + 1 < W.heap.size ∧ W.cell? ⟨w.heap.size, 0, none⟩ = some (.int .i64 u1) ∧ W.cell? ⟨w.heap.size, 1, none⟩ = some (.int .i64 u2) ∧ W.cell? ⟨w.heap.size, 2, none⟩ = some (.int .i64 u3) ∧ W.cell? ⟨w.heap.size + 1, 0, none⟩ = some (.int .i64 v1) ∧ W.cell? ⟨w.heap.size + 1, 1, none⟩ = some (.int .i64 v2) ∧ W.cell? ⟨w.heap.size + 1, 2, none⟩ = some (.int .i64 v3) ∧ Below w.heap.size w W)
    (first | assumption | exact keepW (by assumption) (by assumption))
    (first
      | (go_at_call 16; refine (addT _ _ _ (by assumption) (by assumption) (by assumption) _).mono ?_; rintro e w7 ⟨rfl, bel⟩)
      | (go_at_call 22; refine (mulT _ _ _ (by assumption) (by assumption) (by assumption) _).mono ?_; rintro e w7 ⟨rfl, bel⟩)
      | (go_at_call 28; refine (plusT _ _ _ _ _ _ _ _ _ (by assumption) (by assumption) (by assumption) (by assumption) (by assumption) (by assumption) (by assumption) _).mono ?_; rintro e w7 ⟨rfl, bel⟩)
      | (go_at_call 30; refine (minusT _ _ _ _ _ _ _ _ _ (by assumption) (by assumption) (by assumption) (by assumption) (by assumption) (by assumption) (by assumption) _).mono ?_; rintro e w7 ⟨rfl, bel⟩)
      | (go_at_call 32; refine (timesT _ _ _ _ _ _ _ (by assumption) (by assumption) (by assumption) (by assumption) (by assumption) _).mono ?_; rintro e w7 ⟨rfl, bel⟩)
      | (go_at_call 34; refine (prodT _ _ _ _ _ _ _ (by assumption) (by assumption) (by assumption) (by assumption) (by assumption) (by assumption) (by assumption) _).mono ?_; rintro e w7 ⟨rfl, bel⟩))
  go_wp2
  go_ret
  exact ⟨rfl, by go_split_ands; assumption⟩
end Go.Proofs.Ytfgbkmcbpmmfdaa
