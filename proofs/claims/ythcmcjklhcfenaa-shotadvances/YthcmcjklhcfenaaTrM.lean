/- Layer 10 (trace): where a player fits, and slides to, as plain mathematics. No Go in this text. -/
import Derived.Test.YthcmcjklhcfenaaGrK
import Derived.Test.YthcmcjklhcfenaaGrD
import Derived.Test.YthcmcjklhcfenaaTsE
namespace Go.Proofs.Ythcmcjklhcfenaa
open Go.RowKit
set_option linter.unusedVariables false

theorem Mp.roomOf (M : Mp) : ∃ R : Int → Int → Int → Bool, ∀ x y z, R x y z = true ↔ M.Room x y z :=
  ⟨fun x y z => (boolOf (M.Room x y z)).choose, fun x y z => (boolOf (M.Room x y z)).choose_spec⟩

/-- One axis: where it is behind a move, and whether it is blocked. -/
def mv (r : Bool) (n a : Int) : Int := if r then sat (n + a) else n
def bl (r : Bool) (a : Int) : Bool := !r && !decide (a = 0)
theorem mv_i64 {r : Bool} {n a : Int} (hn : I64 n) : I64 (mv r n a) := by unfold mv; split; exact sat_i64 _; exact hn
theorem mv_0 {r : Bool} {n : Int} (hn : I64 n) : mv r n 0 = n := by unfold mv; rw [Int.add_zero, sat_id hn]; split <;> rfl
theorem bl_0 {r : Bool} : bl r 0 = false := by unfold bl; cases r <;> rfl
/-- Where somebody comes to, axis by axis. -/
structure Slid (R : Int → Int → Int → Bool) (x y z a b c x1 y1 z1 : Int) (b1 b2 b3 : Bool) : Prop where
  ex : x1 = mv (R (sat (x + a)) y z) x a
  ey : y1 = mv (R x1 (sat (y + b)) z) y b
  ez : z1 = mv (R x1 y1 (sat (z + c))) z c
  d1 : b1 = bl (R (sat (x + a)) y z) a
  d2 : b2 = bl (R x1 (sat (y + b)) z) b
  d3 : b3 = bl (R x1 y1 (sat (z + c))) c
theorem Slid.mk' (R : Int → Int → Int → Bool) (x y z a b c : Int) : Slid R x y z a b c (mv (R (sat (x + a)) y z) x a) (mv (R (mv (R (sat (x + a)) y z) x a) (sat (y + b)) z) y b) (mv (R (mv (R (sat (x + a)) y z) x a) (mv (R (mv (R (sat (x + a)) y z) x a) (sat (y + b)) z) y b) (sat (z + c))) z c) (bl (R (sat (x + a)) y z) a) (bl (R (mv (R (sat (x + a)) y z) x a) (sat (y + b)) z) b) (bl (R (mv (R (sat (x + a)) y z) x a) (mv (R (mv (R (sat (x + a)) y z) x a) (sat (y + b)) z) y b) (sat (z + c))) c) := ⟨rfl, rfl, rfl, rfl, rfl, rfl⟩
theorem Slid.i64 {R : Int → Int → Int → Bool} {x y z a b c x1 y1 z1 : Int} {b1 b2 b3 : Bool} (h : Slid R x y z a b c x1 y1 z1 b1 b2 b3) (hx : I64 x) (hy : I64 y) (hz : I64 z) : I64 x1 ∧ I64 y1 ∧ I64 z1 :=
  ⟨h.ex ▸ mv_i64 hx, h.ey ▸ mv_i64 hy, h.ez ▸ mv_i64 hz⟩
theorem Slid.uniq {R : Int → Int → Int → Bool} {x y z a b c x1 y1 z1 x2 y2 z2 : Int} {b1 b2 b3 c1 c2 c3 : Bool} (h : Slid R x y z a b c x1 y1 z1 b1 b2 b3) (k : Slid R x y z a b c x2 y2 z2 c1 c2 c3) : x1 = x2 ∧ y1 = y2 ∧ z1 = z2 ∧ b1 = c1 ∧ b2 = c2 ∧ b3 = c3 := by
  have e1 : x1 = x2 := h.ex.trans k.ex.symm
  subst e1
  have e2 : y1 = y2 := h.ey.trans k.ey.symm
  subst e2
  exact ⟨rfl, rfl, h.ez.trans k.ez.symm, h.d1.trans k.d1.symm, h.d2.trans k.d2.symm, h.d3.trans k.d3.symm⟩
/-- A move along no axis; axes one behind the other. -/
theorem Slid.none {R : Int → Int → Int → Bool} {x y z x1 y1 z1 : Int} {b1 b2 b3 : Bool} (hx : I64 x) (hy : I64 y) (hz : I64 z) (h : Slid R x y z 0 0 0 x1 y1 z1 b1 b2 b3) : x1 = x ∧ y1 = y ∧ z1 = z ∧ b1 = false ∧ b2 = false ∧ b3 = false := by
  obtain ⟨e1, e2, e3, e4, e5, e6⟩ := h
  rw [mv_0 hx] at e1; rw [mv_0 hy] at e2; rw [mv_0 hz] at e3; rw [bl_0] at e4 e5 e6
  exact ⟨e1, e2, e3, e4, e5, e6⟩
theorem Slid.axes {R : Int → Int → Int → Bool} {x y z a b c x1 y1 z1 u1 u2 u3 v1 v2 v3 t1 t2 t3 : Int} {b1 b2 b3 c1 c2 c3 d1 d2 d3 e1 e2 e3 : Bool} (hx : I64 x) (hy : I64 y) (hz : I64 z)
    (h : Slid R x y z a b c x1 y1 z1 b1 b2 b3) (k : Slid R x y z a 0 0 u1 u2 u3 c1 c2 c3) (l : Slid R u1 u2 u3 0 b 0 v1 v2 v3 d1 d2 d3) (m : Slid R v1 v2 v3 0 0 c t1 t2 t3 e1 e2 e3) :
    t1 = x1 ∧ t2 = y1 ∧ t3 = z1 ∧ b1 = c1 ∧ b2 = d2 ∧ b3 = e3 := by
  obtain ⟨i1, i2, i3⟩ := k.i64 hx hy hz
  obtain ⟨j1, j2, j3⟩ := l.i64 i1 i2 i3
  have k2 := k.ey; have k3 := k.ez; have l1 := l.ex; have l3 := l.ez; have m1 := m.ex; have m2 := m.ey
  rw [mv_0 hy] at k2; rw [mv_0 hz] at k3
  replace k2 := k2.symm; replace k3 := k3.symm
  subst k2; subst k3
  rw [mv_0 i1] at l1; rw [mv_0 hz] at l3
  replace l1 := l1.symm; replace l3 := l3.symm
  subst l1; subst l3
  rw [mv_0 i1] at m1; rw [mv_0 j2] at m2
  replace m1 := m1.symm; replace m2 := m2.symm
  subst m1; subst m2
  have ex : u1 = x1 := k.ex.trans h.ex.symm
  subst ex
  have ey : v2 = y1 := l.ey.trans h.ey.symm
  subst ey
  exact ⟨rfl, rfl, m.ez.trans h.ez.symm, h.d1.trans k.d1.symm, h.d2.trans l.d2.symm, h.d3.trans m.d3.symm⟩

/-- Who has room is inside. -/
theorem Mp.Room.inside {M : Mp} {x y z : Int} (hx : I64 x) (hy : I64 y) (hz : I64 z) (h : M.Room x y z) : M.Sized ∧ (26214 ≤ x ∧ x + 26214 ≤ M.W * 65536) ∧ (26214 ≤ y ∧ y + 26214 ≤ M.D * 65536) ∧ (58982 ≤ z ∧ z + 58982 ≤ M.H * 65536) := by
  have lt : ∀ n k : Int, I64 n → 0 < k → k < 100000 → sat (n - k) < sat (n + k) := fun n k hn _ _ => by obtain ⟨_, _⟩ := hn; unfold sat; split <;> split <;> (try split) <;> (try split) <;> omega
  have l1 := lt x 26214 hx (by omega) (by omega); have l2 := lt y 26214 hy (by omega) (by omega); have l3 := lt z 58982 hz (by omega) (by omega)
  unfold Mp.Room at h
  have e1 := h l1 l2 l3 _ _ _ (Int.le_refl _) (by dsimp only; omega) (Int.le_refl _) (by dsimp only; omega) (Int.le_refl _) (by dsimp only; omega)
  have e2 := h l1 l2 l3 ((sat (x + 26214) - 1) / 65536) ((sat (y + 26214) - 1) / 65536) ((sat (z + 58982) - 1) / 65536) (by dsimp only; omega) (by dsimp only; omega) (by dsimp only; omega) (by dsimp only; omega) (by dsimp only; omega) (by dsimp only; omega)
  obtain ⟨hs, a1, _, a2, _, a3, _, _⟩ := e1
  obtain ⟨_, _, c1, _, c2, _, c3, _⟩ := e2
  dsimp only at a1 a2 a3 c1 c2 c3
  obtain ⟨w1, w2, w3, w4, w5, w6, w7⟩ := hs
  have lo : ∀ n k : Int, I64 n → 0 < k → k < 100000 → 0 ≤ sat (n - k) → k ≤ n := fun n k hn _ _ => by obtain ⟨_, _⟩ := hn; unfold sat; split <;> (try split) <;> omega
  have hi : ∀ n k m : Int, I64 n → 0 < k → k < 100000 → m ≤ 32 → sat (n + k) ≤ m * 65536 → n + k ≤ m * 65536 := fun n k m hn _ _ _ => by obtain ⟨_, _⟩ := hn; unfold sat; split <;> (try split) <;> omega
  exact ⟨⟨w1, w2, w3, w4, w5, w6, w7⟩, ⟨lo x 26214 hx (by omega) (by omega) (by omega), hi x 26214 M.W hx (by omega) (by omega) w2 (by omega)⟩, ⟨lo y 26214 hy (by omega) (by omega) (by omega), hi y 26214 M.D hy (by omega) (by omega) w4 (by omega)⟩, ⟨lo z 58982 hz (by omega) (by omega) (by omega), hi z 58982 M.H hz (by omega) (by omega) w6 (by omega)⟩⟩
theorem Mp.Room.cell {M : Mp} {x y z : Int} (hx : I64 x) (hy : I64 y) (hz : I64 z) (h : M.Room x y z) : M.Free (x / 65536) (y / 65536) (z / 65536) := by
  obtain ⟨hs, ⟨p1, p2⟩, ⟨p3, p4⟩, ⟨p5, p6⟩⟩ := h.inside hx hy hz
  obtain ⟨w1, w2, w3, w4, w5, w6, w7⟩ := hs
  unfold Mp.Room at h
  rw [sat_id (x := x - 26214) ⟨by omega, by omega⟩, sat_id (x := y - 26214) ⟨by omega, by omega⟩, sat_id (x := z - 58982) ⟨by omega, by omega⟩, sat_id (x := x + 26214) ⟨by omega, by omega⟩, sat_id (x := y + 26214) ⟨by omega, by omega⟩, sat_id (x := z + 58982) ⟨by omega, by omega⟩] at h
  exact h (by dsimp only; omega) (by dsimp only; omega) (by dsimp only; omega) _ _ _ (by dsimp only; omega) (by dsimp only; omega) (by dsimp only; omega) (by dsimp only; omega) (by dsimp only; omega) (by dsimp only; omega)
/-- In a map without solid cells who is inside has room. -/
theorem Mp.open_room {M : Mp} (hs : M.Sized) (hf : ∀ i, i < M.n → M.f i = false) {x y z : Int} (hx : I64 x) (hy : I64 y) (hz : I64 z) : M.Room x y z ↔ (26214 ≤ x ∧ x + 26214 ≤ M.W * 65536) ∧ (26214 ≤ y ∧ y + 26214 ≤ M.D * 65536) ∧ (58982 ≤ z ∧ z + 58982 ≤ M.H * 65536) := by
  constructor
  · intro h; exact (h.inside hx hy hz).2
  · rintro ⟨⟨p1, p2⟩, ⟨p3, p4⟩, ⟨p5, p6⟩⟩
    obtain ⟨w1, w2, w3, w4, w5, w6, w7⟩ := id hs
    unfold Mp.Room
    rw [sat_id (x := x - 26214) ⟨by omega, by omega⟩, sat_id (x := y - 26214) ⟨by omega, by omega⟩, sat_id (x := z - 58982) ⟨by omega, by omega⟩, sat_id (x := x + 26214) ⟨by omega, by omega⟩, sat_id (x := y + 26214) ⟨by omega, by omega⟩, sat_id (x := z + 58982) ⟨by omega, by omega⟩]
    exact (Mp.open_clear hs hf).2 (.inr ⟨by dsimp only; omega, by dsimp only; omega, by dsimp only; omega, by dsimp only; omega, by dsimp only; omega, by dsimp only; omega⟩)
theorem Mp.Room.mono {M N : Mp} (hf : ∀ x y z, N.Free x y z → M.Free x y z) {x y z : Int} (h : N.Room x y z) : M.Room x y z := Mp.Clear.mono hf h

/-- What is cut to Most. -/
theorem cl_near (a : Int) : -32768 ≤ fclamp a 32768 ∧ fclamp a 32768 ≤ 32768 := by unfold fclamp; split <;> (try split) <;> omega
theorem cl_0 : fclamp 0 32768 = 0 := by decide
theorem cl_id {a : Int} (h0 : -32768 ≤ a) (h1 : a ≤ 32768) : fclamp a 32768 = a := by unfold fclamp; split <;> (try split) <;> omega
theorem cl_mm (a : Int) : fclamp a 32768 = max (-32768) (min 32768 a) := by unfold fclamp; split <;> (try split) <;> omega
/-- Along one axis. -/
theorem ax_move {M : Mp} {R : Int → Int → Int → Bool} (hR : ∀ x y z, R x y z = true ↔ M.Room x y z) {n a : Int} {P : Int → Bool} (hP : P n = true) (hn : 0 ≤ n ∧ n ≤ 3000000) (ha : -32768 ≤ a ∧ a ≤ 32768) :
    P (mv (P (sat (n + a))) n a) = true ∧ ((mv (P (sat (n + a))) n a = n + a ∧ bl (P (sat (n + a))) a = false) ∨ (mv (P (sat (n + a))) n a = n ∧ bl (P (sat (n + a))) a = true ∧ a ≠ 0)) := by
  have e : sat (n + a) = n + a := sat_id ⟨by omega, by omega⟩
  rw [e]
  unfold mv bl
  cases hp : P (n + a) with
  | true => rw [if_pos rfl, e]; exact ⟨hp, .inl ⟨rfl, rfl⟩⟩
  | false =>
    have h0 : a ≠ 0 := fun h => by rw [h, Int.add_zero, hP] at hp; exact absurd hp (by decide)
    simp only [Bool.false_eq_true, if_false]
    exact ⟨hP, .inr ⟨trivial, by simp [h0], h0⟩⟩
/-- Who is free stays free, and goes all the way or not at all. -/
theorem Slid.stays {M : Mp} {R : Int → Int → Int → Bool} (hR : ∀ x y z, R x y z = true ↔ M.Room x y z) {x y z a b c x1 y1 z1 : Int} {b1 b2 b3 : Bool} (hx : I64 x) (hy : I64 y) (hz : I64 z) (ha : -32768 ≤ a ∧ a ≤ 32768) (hb : -32768 ≤ b ∧ b ≤ 32768) (hc : -32768 ≤ c ∧ c ≤ 32768)
    (h : Slid R x y z a b c x1 y1 z1 b1 b2 b3) (hf : R x y z = true) :
    R x1 y1 z1 = true ∧ ((x1 = x + a ∧ b1 = false) ∨ (x1 = x ∧ b1 = true ∧ a ≠ 0)) ∧ ((y1 = y + b ∧ b2 = false) ∨ (y1 = y ∧ b2 = true ∧ b ≠ 0)) ∧ ((z1 = z + c ∧ b3 = false) ∨ (z1 = z ∧ b3 = true ∧ c ≠ 0)) := by
  obtain ⟨hs, i1, i2, i3⟩ := ((hR _ _ _).1 hf).inside hx hy hz
  obtain ⟨w1, w2, w3, w4, w5, w6, w7⟩ := hs
  obtain ⟨j1, j2, j3⟩ := h.i64 hx hy hz
  obtain ⟨g1, g2⟩ := ax_move hR (P := fun n => R n y z) hf ⟨by omega, by omega⟩ ha
  obtain ⟨k1, k2⟩ := ax_move hR (P := fun n => R (mv (R (sat (x + a)) y z) x a) n z) g1 (n := y) (a := b) ⟨by omega, by omega⟩ hb
  obtain ⟨l1, l2⟩ := ax_move hR (P := fun n => R (mv (R (sat (x + a)) y z) x a) (mv (R (mv (R (sat (x + a)) y z) x a) (sat (y + b)) z) y b) n) k1 (n := z) (a := c) ⟨by omega, by omega⟩ hc
  obtain ⟨e1, e2, e3, e4, e5, e6⟩ := h
  subst e1; subst e2; subst e3; subst e4; subst e5; subst e6
  exact ⟨l1, g2, k2, l2⟩
/-- Along one axis one sees where one comes to. -/
theorem near_sees {M : Mp} {x y z x1 y1 z1 : Int} (h : M.Free (x / 65536) (y / 65536) (z / 65536)) (k : M.Free (x1 / 65536) (y1 / 65536) (z1 / 65536)) (hd : (y1 = y ∧ z1 = z ∧ x1 - x ≤ 32768 ∧ x - x1 ≤ 32768) ∨ (x1 = x ∧ z1 = z ∧ y1 - y ≤ 32768 ∧ y - y1 ≤ 32768) ∨ (x1 = x ∧ y1 = y ∧ z1 - z ≤ 32768 ∧ z - z1 ≤ 32768)) : M.Sees ⟨x, y, z⟩ ⟨x1, y1, z1⟩ := by
  refine Mp.Span.sees fun p q r h1 h2 h3 h4 h5 h6 => ?_
  dsimp only at h1 h2 h3 h4 h5 h6
  have : (p = x / 65536 ∧ q = y / 65536 ∧ r = z / 65536) ∨ (p = x1 / 65536 ∧ q = y1 / 65536 ∧ r = z1 / 65536) := by
    rcases hd with ⟨rfl, rfl, _, _⟩ | ⟨rfl, rfl, _, _⟩ | ⟨rfl, rfl, _, _⟩ <;> omega
  rcases this with ⟨rfl, rfl, rfl⟩ | ⟨rfl, rfl, rfl⟩
  · exact h
  · exact k
end Go.Proofs.Ythcmcjklhcfenaa
