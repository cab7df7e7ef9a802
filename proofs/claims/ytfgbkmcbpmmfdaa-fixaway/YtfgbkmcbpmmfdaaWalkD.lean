/- Layer 1 (fix): the walk of the law FixAway. -/
import Derived.Test.YtfgbkmcbpmmfdaaFixMath
import Derived.Test.YtfgbkmcbpmmfdaaFixD
namespace Go.Proofs.Ytfgbkmcbpmmfdaa
open Go.RowKit
set_option linter.unusedVariables false
attribute [local go_sem ↓] Go.wp_at_zero Go.wp_at_succ

/-- A number of thirty bits. -/
structure I30 (a : Int) : Prop where
  lo : -536870912 ≤ a
  hi : a ≤ 536870912
theorem I30.i32 {a : Int} (h : I30 a) : I32 a := by obtain ⟨_, _⟩ := h; exact ⟨by omega, by omega⟩
theorem I30.i64 {a : Int} (h : I30 a) : I64 a := by obtain ⟨_, _⟩ := h; exact ⟨by omega, by omega⟩
theorem I30.add {a b : Int} (h : I30 a) (k : I30 b) : I32 (a + b) := by obtain ⟨_, _⟩ := h; obtain ⟨_, _⟩ := k; exact ⟨by omega, by omega⟩
theorem I30.sub {a b : Int} (h : I30 a) (k : I30 b) : I32 (a - b) := by obtain ⟨_, _⟩ := h; obtain ⟨_, _⟩ := k; exact ⟨by omega, by omega⟩
theorem I32.i64 {a : Int} (h : I32 a) : I64 a := by obtain ⟨_, _⟩ := h; exact ⟨by omega, by omega⟩
theorem tdiv_cases (x d : Int) (hd : 0 < d) : (0 ≤ x ∧ x.tdiv d = x / d) ∨ (x < 0 ∧ x.tdiv d = -((-x) / d)) := by
  by_cases h : 0 ≤ x
  · exact .inl ⟨h, Int.tdiv_eq_ediv_of_nonneg h⟩
  · refine .inr ⟨by omega, ?_⟩
    have e := Int.neg_tdiv (-x) d
    rw [Int.neg_neg] at e
    rw [e, Int.tdiv_eq_ediv_of_nonneg (by omega)]
theorem quarter (x : Int) (h : I32 x) : I30 (x.tdiv 4) := by
  obtain ⟨_, _⟩ := h
  rcases tdiv_cases x 4 (by omega) with ⟨_, e⟩ | ⟨_, e⟩ <;> rw [e] <;> constructor <;> omega

theorem mag_sq (a : Int) : mag a * mag a = a * a := by
  unfold mag; split
  · exact Int.neg_mul_neg a a
  · rfl
/-- The squares of a sum: (a b + c d + e f)^2 is not above the product of the sums of squares. -/
theorem lagrange (a b c d e f : Int) : (a * d + b * e + c * f) * (a * d + b * e + c * f) ≤ (a * a + b * b + c * c) * (d * d + e * e + f * f) := by
  have h1 : 0 ≤ (a * e - b * d) * (a * e - b * d) := by
    rcases Int.le_total 0 (a * e - b * d) with h | h
    · exact Int.mul_nonneg h h
    · exact Int.mul_nonneg_of_nonpos_of_nonpos h h
  have h2 : 0 ≤ (a * f - c * d) * (a * f - c * d) := by
    rcases Int.le_total 0 (a * f - c * d) with h | h
    · exact Int.mul_nonneg h h
    · exact Int.mul_nonneg_of_nonpos_of_nonpos h h
  have h3 : 0 ≤ (b * f - c * e) * (b * f - c * e) := by
    rcases Int.le_total 0 (b * f - c * e) with h | h
    · exact Int.mul_nonneg h h
    · exact Int.mul_nonneg_of_nonpos_of_nonpos h h
  have e0 : (a * a + b * b + c * c) * (d * d + e * e + f * f) = (a * d + b * e + c * f) * (a * d + b * e + c * f) + (a * e - b * d) * (a * e - b * d) + (a * f - c * d) * (a * f - c * d) + (b * f - c * e) * (b * f - c * e) := by grind
  omega
/-- Of two lengths and a sum's. p, q, s: the sums of squares; the sum's is at most p + q + 2 times the product of the roots. -/
theorem tri {p q s k l m d : Int} (hk : 0 ≤ k) (hl : 0 ≤ l) (hm : 0 ≤ m) (p1 : p < (k + 1) * (k + 1)) (q1 : q < (l + 1) * (l + 1)) (p0 : 0 ≤ p) (q0 : 0 ≤ q) (s1 : m * m ≤ s) (hs : s = p + q + 2 * d) (hd : d * d ≤ p * q) : m ≤ k + l + 1 := by
  -- d < (k+1)(l+1)
  have hd2 : d < (k + 1) * (l + 1) := by
    by_cases h : 0 ≤ d
    · have e1 : p * q < (k + 1) * (k + 1) * ((l + 1) * (l + 1)) := by
        have a1 : p * q ≤ (k + 1) * (k + 1) * q := Int.mul_le_mul_of_nonneg_right (by omega) q0
        have pos : 0 < (k + 1) * (k + 1) := Int.mul_pos (by omega) (by omega)
        have a2 : (k + 1) * (k + 1) * q < (k + 1) * (k + 1) * ((l + 1) * (l + 1)) := Int.mul_lt_mul_of_pos_left q1 pos
        omega
      have e2 : (k + 1) * (k + 1) * ((l + 1) * (l + 1)) = (k + 1) * (l + 1) * ((k + 1) * (l + 1)) := by grind
      exact isq_lt (Int.mul_nonneg (by omega) (by omega)) (by omega) h
    · have : 0 < (k + 1) * (l + 1) := Int.mul_pos (by omega) (by omega)
      omega
  have e : (k + l + 2) * (k + l + 2) = (k + 1) * (k + 1) + (l + 1) * (l + 1) + 2 * ((k + 1) * (l + 1)) := by grind
  have : m < k + l + 2 := isq_lt (by omega) (by omega) hm
  omega
theorem away_law {a1 a2 a3 b1 b2 b3 : Int} (h1 : I30 a1) (h2 : I30 a2) (h3 : I30 a3) (g1 : I30 b1) (g2 : I30 b2) (g3 : I30 b3) :
    flong (a1 + b1) (a2 + b2) (a3 + b3) ≤ flong a1 a2 a3 + flong b1 b2 b3 + 1 ∧ flong (a1 - b1) (a2 - b2) (a3 - b3) ≤ flong a1 a2 a3 + flong b1 b2 b3 + 1 ∧
    flong (b1 - a1) (b2 - a2) (b3 - a3) = flong (a1 - b1) (a2 - b2) (a3 - b3) ∧ (flong (a1 - b1) (a2 - b2) (a3 - b3) = 0 ↔ (a1 = b1 ∧ a2 = b2 ∧ a3 = b3)) ∧ 0 ≤ fdot a1 a2 a3 a1 a2 a3 ∧
    (0 ≤ flong a1 a2 a3 ∧ flong a1 a2 a3 ≤ 4294967296) ∧ (0 ≤ flong b1 b2 b3 ∧ flong b1 b2 b3 ≤ 4294967296) := by
  obtain ⟨-, k, hk, k1, k2, k3⟩ := flong_small h1.i32 h2.i32 h3.i32
  obtain ⟨-, l, hl, l1, l2, l3⟩ := flong_small g1.i32 g2.i32 g3.i32
  obtain ⟨-, m, hm, m1, m2, m3⟩ := flong_small (h1.add g1) (h2.add g2) (h3.add g3)
  obtain ⟨-, n, hn, n1, n2, n3⟩ := flong_small (h1.sub g1) (h2.sub g2) (h3.sub g3)
  have eqn : flong (b1 - a1) (b2 - a2) (b3 - a3) = flong (a1 - b1) (a2 - b2) (a3 - b3) := by
    have e : ∀ x y : Int, mag (y - x) = mag (x - y) := fun x y => by rw [← mag_neg_eq (x - y), show -(x - y) = y - x from by omega]
    unfold flong; rw [e a1 b1, e a2 b2, e a3 b3]
  rw [mag_sq, mag_sq, mag_sq] at k1 k2 l1 l2 m1 m2 n1 n2
  have p0 : ∀ x : Int, 0 ≤ x * x := fun x => by rw [← mag_sq]; exact Int.mul_nonneg (mag_nonneg _) (mag_nonneg _)
  have q1 := p0 a1; have q2 := p0 a2; have q3 := p0 a3; have q4 := p0 b1; have q5 := p0 b2; have q6 := p0 b3
  have lg := lagrange a1 a2 a3 b1 b2 b3
  have xa : ∀ x y : Int, (x + y) * (x + y) = x * x + y * y + 2 * (x * y) := fun x y => by rw [Int.add_mul, Int.mul_add, Int.mul_add, Int.mul_comm y x]; omega
  have xs : ∀ x y : Int, (x - y) * (x - y) = x * x + y * y - 2 * (x * y) := fun x y => by rw [Int.sub_mul, Int.mul_sub, Int.mul_sub, Int.mul_comm y x]; omega
  rw [eqn, hk, hl, hm, hn]
  clear eqn hk hl hm hn
  refine ⟨?_, ?_, rfl, ?_, ?_, ⟨by omega, by omega⟩, ⟨by omega, by omega⟩⟩
  · exact tri (by omega) (by omega) (by omega) k2 l2 (by omega) (by omega) m1 (d := a1 * b1 + a2 * b2 + a3 * b3) (by rw [xa, xa, xa]; omega) lg
  · exact tri (by omega) (by omega) (by omega) k2 l2 (by omega) (by omega) n1 (d := -(a1 * b1 + a2 * b2 + a3 * b3)) (by rw [xs, xs, xs]; omega) (by rw [Int.neg_mul_neg]; exact lg)
  · constructor
    · intro h0
      rw [h0] at n2
      have r1 := p0 (a1 - b1); have r2 := p0 (a2 - b2); have r3 := p0 (a3 - b3)
      have z : ∀ x : Int, x * x < 1 → x = 0 := fun x hx => by
        have : x * x = 0 := by have := p0 x; omega
        rcases Int.mul_eq_zero.1 this with h | h <;> exact h
      refine ⟨?_, ?_, ?_⟩
      · have := z (a1 - b1) (by omega); omega
      · have := z (a2 - b2) (by omega); omega
      · have := z (a3 - b3) (by omega); omega
    · rintro ⟨rfl, rfl, rfl⟩
      simp at n1
      have : (n : Int) < 1 := isq_lt (by omega) (by omega) (by omega)
      omega
  · rw [fdot_eq, if_neg (by omega)]
    unfold sat; split <;> (try split) <;> omega

theorem minusS (a1 a2 a3 b1 b2 b3 : Int) (h1 : I64 a1) (h2 : I64 a2) (h3 : I64 a3) (g1 : I64 b1) (g2 : I64 b2) (g3 : I64 b3) (r1 : I64 (a1 - b1)) (r2 : I64 (a2 - b2)) (r3 : I64 (a3 - b3)) (w : World) :
    Calls Try.prog 30 #[.agg #[.int .i64 a1, .int .i64 a2, .int .i64 a3], .agg #[.int .i64 b1, .int .i64 b2, .int .i64 b3]] w fun e w' =>
      e = .returned (.agg #[.int .i64 (a1 - b1), .int .i64 (a2 - b2), .int .i64 (a3 - b3)]) ∧ Below w.heap.size w w' := by
  have := fixVecMinus a1 a2 a3 b1 b2 b3 h1 h2 h3 g1 g2 g3 w
  rw [sat_id r1, sat_id r2, sat_id r3] at this; exact this
theorem plusS (a1 a2 a3 b1 b2 b3 : Int) (h1 : I64 a1) (h2 : I64 a2) (h3 : I64 a3) (g1 : I64 b1) (g2 : I64 b2) (g3 : I64 b3) (r1 : I64 (a1 + b1)) (r2 : I64 (a2 + b2)) (r3 : I64 (a3 + b3)) (w : World) :
    Calls Try.prog 28 #[.agg #[.int .i64 a1, .int .i64 a2, .int .i64 a3], .agg #[.int .i64 b1, .int .i64 b2, .int .i64 b3]] w fun e w' =>
      e = .returned (.agg #[.int .i64 (a1 + b1), .int .i64 (a2 + b2), .int .i64 (a3 + b3)]) ∧ Below w.heap.size w w' := by
  have := fixVecPlus a1 a2 a3 b1 b2 b3 h1 h2 h3 g1 g2 g3 w
  rw [sat_id r1, sat_id r2, sat_id r3] at this; exact this
structure LongIs (x y z n : Int) : Prop where
  eq : flong x y z = n
structure DotIs (x y z n : Int) : Prop where
  eq : fdot x y z x y z = n
theorem longN (x y z n : Int) (h1 : I64 x) (h2 : I64 y) (h3 : I64 z) (h : LongIs x y z n) (w : World) :
    Calls Try.prog 36 #[.agg #[.int .i64 x, .int .i64 y, .int .i64 z]] w fun e w' => e = .returned (.int .i64 n) ∧ Below w.heap.size w w' := by
  have := fixLong x y z h1 h2 h3 w
  rw [h.eq] at this; exact this
theorem dotN (x y z n : Int) (h1 : I64 x) (h2 : I64 y) (h3 : I64 z) (h : DotIs x y z n) (w : World) :
    Calls Try.prog 34 #[.agg #[.int .i64 x, .int .i64 y, .int .i64 z], .agg #[.int .i64 x, .int .i64 y, .int .i64 z]] w fun e w' => e = .returned (.int .i64 n) ∧ Below w.heap.size w w' := by
  have := fixDot x y z x y z h1 h2 h3 h1 h2 h3 w
  rw [h.eq] at this; exact this
theorem keepT {B : Nat} {w w2 W w3 : World} {a1 a2 a3 c1 c2 c3 : Int} (hb : Below W.heap.size W w3)
    (h : B + 1 < W.heap.size ∧ W.cell? ⟨B, 0, none⟩ = some (.int .i64 a1) ∧ W.cell? ⟨B, 1, none⟩ = some (.int .i64 a2) ∧ W.cell? ⟨B, 2, none⟩ = some (.int .i64 a3) ∧ W.cell? ⟨B + 1, 0, none⟩ = some (.int .i64 c1) ∧ W.cell? ⟨B + 1, 1, none⟩ = some (.int .i64 c2) ∧ W.cell? ⟨B + 1, 2, none⟩ = some (.int .i64 c3) ∧ Below w.heap.size w W ∧ w.heap.size ≤ B) :
    B + 1 < w3.heap.size ∧ w3.cell? ⟨B, 0, none⟩ = some (.int .i64 a1) ∧ w3.cell? ⟨B, 1, none⟩ = some (.int .i64 a2) ∧ w3.cell? ⟨B, 2, none⟩ = some (.int .i64 a3) ∧ w3.cell? ⟨B + 1, 0, none⟩ = some (.int .i64 c1) ∧ w3.cell? ⟨B + 1, 1, none⟩ = some (.int .i64 c2) ∧ w3.cell? ⟨B + 1, 2, none⟩ = some (.int .i64 c3) ∧ Below w.heap.size w w3 ∧ w.heap.size ≤ B := by
  obtain ⟨h0, h1, h2, h3, h4, h5, h6, h7, h8⟩ := h
  exact ⟨Nat.lt_of_lt_of_le h0 hb.size, keepCell hb (by omega) h1, keepCell hb (by omega) h2, keepCell hb (by omega) h3, keepCell hb (by omega) h4, keepCell hb (by omega) h5, keepCell hb (by omega) h6, h7.trans (hb.mono (by omega)), h8⟩
theorem drewT {B : Nat} {w W : World} {a1 a2 a3 c1 c2 c3 : Int}
    (h : B + 1 < W.heap.size ∧ W.cell? ⟨B, 0, none⟩ = some (.int .i64 a1) ∧ W.cell? ⟨B, 1, none⟩ = some (.int .i64 a2) ∧ W.cell? ⟨B, 2, none⟩ = some (.int .i64 a3) ∧ W.cell? ⟨B + 1, 0, none⟩ = some (.int .i64 c1) ∧ W.cell? ⟨B + 1, 1, none⟩ = some (.int .i64 c2) ∧ W.cell? ⟨B + 1, 2, none⟩ = some (.int .i64 c3) ∧ Below w.heap.size w W ∧ w.heap.size ≤ B) :
    B + 1 < W.drew.heap.size ∧ W.drew.cell? ⟨B, 0, none⟩ = some (.int .i64 a1) ∧ W.drew.cell? ⟨B, 1, none⟩ = some (.int .i64 a2) ∧ W.drew.cell? ⟨B, 2, none⟩ = some (.int .i64 a3) ∧ W.drew.cell? ⟨B + 1, 0, none⟩ = some (.int .i64 c1) ∧ W.drew.cell? ⟨B + 1, 1, none⟩ = some (.int .i64 c2) ∧ W.drew.cell? ⟨B + 1, 2, none⟩ = some (.int .i64 c3) ∧ Below w.heap.size w W.drew ∧ w.heap.size ≤ B :=
  ⟨h.1, h.2.1, h.2.2.1, h.2.2.2.1, h.2.2.2.2.1, h.2.2.2.2.2.1, h.2.2.2.2.2.2.1, h.2.2.2.2.2.2.2.1.drew, h.2.2.2.2.2.2.2.2⟩

set_option maxRecDepth 100000 in
set_option maxHeartbeats 20000000 in
theorem fixAway_walk (x y z p q r : Int) (hx : I32 x) (hy : I32 y) (hz : I32 z) (hp : I32 p) (hq : I32 q) (hr : I32 r) (w : World) :
    Calls Try.prog 11 #[.int .i32 x, .int .i32 y, .int .i32 z, .int .i32 p, .int .i32 q, .int .i32 r] w fun e w' => e = .returned (.bool true) ∧ Below w.heap.size w w' := by
  have x0 := hx.lo; have x1 := hx.hi; have y0 := hy.lo; have y1 := hy.hi; have z0 := hz.lo; have z1 := hz.hi
  have p0 := hp.lo; have p1 := hp.hi; have q0 := hq.lo; have q1 := hq.hi; have r0 := hr.lo; have r1 := hr.hi
  go_enter Try.func11, Try.ntmps11
  go_wp2_with fail
  refine (shown_any _).mono ?_; rintro e w1 ⟨rfl, bel⟩
  go_wp2_with fail
  have h1 := quarter x hx; have h2 := quarter y hy; have h3 := quarter z hz
  have g1 := quarter p hp; have g2 := quarter q hq; have g3 := quarter r hr
  generalize x.tdiv 4 = a1 at *
  generalize y.tdiv 4 = a2 at *
  generalize z.tdiv 4 = a3 at *
  generalize p.tdiv 4 = b1 at *
  generalize q.tdiv 4 = b2 at *
  generalize r.tdiv 4 = b3 at *
  clear x0 x1 y0 y1 z0 z1 p0 p1 q0 q1 r0 r1
  obtain ⟨l1, l2, l3, l4, l5, l6, l7⟩ := away_law h1 h2 h3 g1 g2 g3
  obtain ⟨q, hq⟩ : ∃ q, q = decide (a1 = b1 ∧ a2 = b2 ∧ a3 = b3) := ⟨_, rfl⟩
  have hfq : (flong (a1 - b1) (a2 - b2) (a3 - b3) == 0) = q := by rw [hq, Bool.eq_iff_iff]; simp [l4]
  have hvq := vecEq_run a1 a2 a3 b1 b2 b3 q hq
  clear hq l4
  generalize e1 : flong (a1 - b1) (a2 - b2) (a3 - b3) = F at *
  generalize e2 : flong (a1 + b1) (a2 + b2) (a3 + b3) = P at *
  generalize e3 : flong a1 a2 a3 = LA at *
  generalize e4 : flong b1 b2 b3 = LB at *
  generalize e5 : fdot a1 a2 a3 a1 a2 a3 = D at *
  have E1 := LongIs.mk e1; have E2 := LongIs.mk e2; have E3 := LongIs.mk e3; have E4 := LongIs.mk e4; have E5 := DotIs.mk e5; have E6 := LongIs.mk l3
  clear e1 e2 e3 e4 e5 l3
  obtain ⟨l6, l6'⟩ := l6; obtain ⟨l7, l7'⟩ := l7
  have k1 : IntKind.i64.wrap (LA + LB) = LA + LB := by rw [IntKind.wrap_i64]; omega
  have k2 : IntKind.i64.wrap (LA + LB + 1) = LA + LB + 1 := by rw [IntKind.wrap_i64]; omega
  have t1 := decide_eq_true l1; have t2 := decide_eq_true l2; have t3 := decide_eq_true l5
  have A1 := h1.i64; have A2 := h2.i64; have A3 := h3.i64; have G1 := g1.i64; have G2 := g2.i64; have G3 := g3.i64
  have D1 := (h1.sub g1).i64; have D2 := (h2.sub g2).i64; have D3 := (h3.sub g3).i64
  have N1 := (g1.sub h1).i64; have N2 := (g2.sub h2).i64; have N3 := (g3.sub h3).i64
  have P1 := (h1.add g1).i64; have P2 := (h2.add g2).i64; have P3 := (h3.add g3).i64
  have R1 : I64 (a1 + b1 - b1) := by rw [Int.add_sub_cancel]; exact A1
  have R2 : I64 (a2 + b2 - b2) := by rw [Int.add_sub_cancel]; exact A2
  have R3 : I64 (a3 + b3 - b3) := by rw [Int.add_sub_cancel]; exact A3
  have hS : w1.heap.size + 1 < ((w1.alloc (.cells #[.int .i64 a1, .int .i64 a2, .int .i64 a3] 27)).alloc (.cells #[.int .i64 b1, .int .i64 b2, .int .i64 b3] 27)).heap.size ∧ ((w1.alloc (.cells #[.int .i64 a1, .int .i64 a2, .int .i64 a3] 27)).alloc (.cells #[.int .i64 b1, .int .i64 b2, .int .i64 b3] 27)).cell? ⟨w1.heap.size, 0, none⟩ = some (.int .i64 a1) ∧ ((w1.alloc (.cells #[.int .i64 a1, .int .i64 a2, .int .i64 a3] 27)).alloc (.cells #[.int .i64 b1, .int .i64 b2, .int .i64 b3] 27)).cell? ⟨w1.heap.size, 1, none⟩ = some (.int .i64 a2) ∧ ((w1.alloc (.cells #[.int .i64 a1, .int .i64 a2, .int .i64 a3] 27)).alloc (.cells #[.int .i64 b1, .int .i64 b2, .int .i64 b3] 27)).cell? ⟨w1.heap.size, 2, none⟩ = some (.int .i64 a3) ∧ ((w1.alloc (.cells #[.int .i64 a1, .int .i64 a2, .int .i64 a3] 27)).alloc (.cells #[.int .i64 b1, .int .i64 b2, .int .i64 b3] 27)).cell? ⟨w1.heap.size + 1, 0, none⟩ = some (.int .i64 b1) ∧ ((w1.alloc (.cells #[.int .i64 a1, .int .i64 a2, .int .i64 a3] 27)).alloc (.cells #[.int .i64 b1, .int .i64 b2, .int .i64 b3] 27)).cell? ⟨w1.heap.size + 1, 1, none⟩ = some (.int .i64 b2) ∧ ((w1.alloc (.cells #[.int .i64 a1, .int .i64 a2, .int .i64 a3] 27)).alloc (.cells #[.int .i64 b1, .int .i64 b2, .int .i64 b3] 27)).cell? ⟨w1.heap.size + 1, 2, none⟩ = some (.int .i64 b3) ∧ Below w.heap.size w ((w1.alloc (.cells #[.int .i64 a1, .int .i64 a2, .int .i64 a3] 27)).alloc (.cells #[.int .i64 b1, .int .i64 b2, .int .i64 b3] 27)) ∧ w.heap.size ≤ w1.heap.size :=
    ⟨by simp, by simp [go_sem], by simp [go_sem], by simp [go_sem], by simp [go_sem], by simp [go_sem], by simp [go_sem], (bel.alloc bel.size _).alloc (by have := bel.size; simp; omega) _, bel.size⟩
  refine (minusS a1 a2 a3 b1 b2 b3 A1 A2 A3 G1 G2 G3 D1 D2 D3 _).mono ?_; rintro e w2 ⟨rfl, b2'⟩
  have hS := keepT (w2 := w) b2' hS
  clear b2'
  go_wp2_with fail
  refine (longN _ _ _ _ D1 D2 D3 E1 _).mono ?_; rintro e w3 ⟨rfl, b3'⟩
  have hS := keepT (w2 := w) b3' hS
  have hSd := drewT hS
  clear b3' bel
  go_wp2_with fail
  go_region_held3 (fun W => w1.heap.size + 1 < W.heap.size ∧ W.cell? ⟨w1.heap.size, 0, none⟩ = some (.int .i64 a1) ∧ W.cell? ⟨w1.heap.size, 1, none⟩ = some (.int .i64 a2) ∧ W.cell? ⟨w1.heap.size, 2, none⟩ = some (.int .i64 a3) ∧ W.cell? ⟨w1.heap.size + 1, 0, none⟩ = some (.int .i64 b1) ∧ W.cell? ⟨w1.heap.size + 1, 1, none⟩ = some (.int .i64 b2) ∧ W.cell? ⟨w1.heap.size + 1, 2, none⟩ = some (.int .i64 b3) ∧ Below w.heap.size w W ∧ w.heap.size ≤ w1.heap.size) (first | assumption | exact keepT (w2 := w) (by assumption) (by assumption))
    (first
      | (go_at_call 30; refine (minusS _ _ _ _ _ _ (by assumption) (by assumption) (by assumption) (by assumption) (by assumption) (by assumption) (by assumption) (by assumption) (by assumption) _).mono ?_; rintro e w4 ⟨rfl, b4'⟩; try rw [Int.add_sub_cancel, Int.add_sub_cancel, Int.add_sub_cancel])
      | (go_at_call 28; refine (plusS _ _ _ _ _ _ (by assumption) (by assumption) (by assumption) (by assumption) (by assumption) (by assumption) (by assumption) (by assumption) (by assumption) _).mono ?_; rintro e w4 ⟨rfl, b4'⟩)
      | (go_at_call 36; refine (longN _ _ _ _ (by assumption) (by assumption) (by assumption) (by assumption) _).mono ?_; rintro e w4 ⟨rfl, b4'⟩)
      | (go_at_call 34; refine (dotN _ _ _ _ (by assumption) (by assumption) (by assumption) (by assumption) _).mono ?_; rintro e w4 ⟨rfl, b4'⟩))
  go_wp2
  go_ret
  exact ⟨rfl, by go_split_ands; assumption⟩
end Go.Proofs.Ytfgbkmcbpmmfdaa
