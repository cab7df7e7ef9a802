/- Layer 10 (trace): in maps without solid cells. -/
import Derived.Test.YthcmcjklhcfenaaTwA
namespace Go.Proofs.Ythcmcjklhcfenaa
open Go.RowKit Go.Shelf
set_option linter.unusedVariables false
set_option linter.unusedSimpArgs false
attribute [local go_sem ↓] Go.wp_at_zero Go.wp_at_succ

/-- Inside along a side, with such a reach. -/
def Ins (n s r : Int) : Prop := r ≤ n ∧ n + r ≤ s * 65536
instance (n s r : Int) : Decidable (Ins n s r) := inferInstanceAs (Decidable (r ≤ n ∧ n + r ≤ s * 65536))
theorem bl_true {r : Bool} {a : Int} (h : bl r a = true) : r = false := by unfold bl at h; cases r <;> simp_all
/-- In a map without solid cells an axis is blocked just if it would lead outside. -/
theorem Slid.opens {M : Mp} {R : Int → Int → Int → Bool} (hR : ∀ x y z, R x y z = true ↔ M.Room x y z) (hs : M.Sized) (hf : ∀ i, i < M.n → M.f i = false) {x y z a b c x1 y1 z1 : Int} {b1 b2 b3 : Bool} (hx : I64 x) (hy : I64 y) (hz : I64 z) (ha : -32768 ≤ a ∧ a ≤ 32768) (hb : -32768 ≤ b ∧ b ≤ 32768) (hc : -32768 ≤ c ∧ c ≤ 32768)
    (h : Slid R x y z a b c x1 y1 z1 b1 b2 b3) (hr : R x y z = true) :
    (b1 = true ↔ ¬ Ins (x + a) M.W 26214) ∧ (b2 = true ↔ ¬ Ins (y + b) M.D 26214) ∧ (b3 = true ↔ ¬ Ins (z + c) M.H 58982) := by
  obtain ⟨j1, j2, j3⟩ := h.i64 hx hy hz
  have hin := fun {x y z} (hx : I64 x) (hy : I64 y) (hz : I64 z) => (hR x y z).trans (Mp.open_room hs hf hx hy hz)
  obtain ⟨s0, s1, s2, s3⟩ := h.stays hR hx hy hz ha hb hc hr
  obtain ⟨⟨p1, p2⟩, ⟨p3, p4⟩, ⟨p5, p6⟩⟩ := (hin hx hy hz).1 hr
  obtain ⟨⟨u1, u2⟩, ⟨u3, u4⟩, ⟨u5, u6⟩⟩ := (hin j1 j2 j3).1 s0
  obtain ⟨w1, w2, w3, w4, w5, w6, w7⟩ := id hs
  have e1 : sat (x + a) = x + a := sat_id ⟨by omega, by omega⟩
  have e2 : sat (y + b) = y + b := sat_id ⟨by omega, by omega⟩
  have e3 : sat (z + c) = z + c := sat_id ⟨by omega, by omega⟩
  have i1 : I64 (x + a) := ⟨by omega, by omega⟩
  have i2 : I64 (y + b) := ⟨by omega, by omega⟩
  have i3 : I64 (z + c) := ⟨by omega, by omega⟩
  have d1 := h.d1; have d2 := h.d2; have d3 := h.d3
  rw [e1] at d1; rw [e2] at d2; rw [e3] at d3
  refine ⟨⟨fun hb1 hi => ?_, fun hn => ?_⟩, ⟨fun hb1 hi => ?_, fun hn => ?_⟩, ⟨fun hb1 hi => ?_, fun hn => ?_⟩⟩
  · have := bl_true (d1.symm.trans hb1)
    rw [(hin i1 hy hz).2 ⟨hi, ⟨p3, p4⟩, ⟨p5, p6⟩⟩] at this
    exact absurd this (by decide)
  · rcases s1 with ⟨q, _⟩ | ⟨_, q, _⟩
    · rw [q] at u1 u2; exact absurd ⟨u1, u2⟩ hn
    · exact q
  · have := bl_true (d2.symm.trans hb1)
    rw [(hin j1 i2 hz).2 ⟨⟨u1, u2⟩, hi, ⟨p5, p6⟩⟩] at this
    exact absurd this (by decide)
  · rcases s2 with ⟨q, _⟩ | ⟨_, q, _⟩
    · rw [q] at u3 u4; exact absurd ⟨u3, u4⟩ hn
    · exact q
  · have := bl_true (d3.symm.trans hb1)
    rw [(hin j1 j2 i3).2 ⟨⟨u1, u2⟩, ⟨u3, u4⟩, hi⟩] at this
    exact absurd this (by decide)
  · rcases s3 with ⟨q, _⟩ | ⟨_, q, _⟩
    · rw [q] at u5 u6; exact absurd ⟨u5, u6⟩ hn
    · exact q
/-- Who goes, and goes back, is where it was. -/
theorem Slid.back {M : Mp} {R : Int → Int → Int → Bool} (hR : ∀ x y z, R x y z = true ↔ M.Room x y z) (hs : M.Sized) (hf : ∀ i, i < M.n → M.f i = false) {x y z a b c x2 y2 z2 : Int} {c1 c2 c3 : Bool} (hx : I64 x) (hy : I64 y) (hz : I64 z) (ha : -32768 ≤ a ∧ a ≤ 32768) (hb : -32768 ≤ b ∧ b ≤ 32768) (hc : -32768 ≤ c ∧ c ≤ 32768)
    (hr : R x y z = true) (hr1 : R (x + a) (y + b) (z + c) = true) (k : Slid R (x + a) (y + b) (z + c) (-a) (-b) (-c) x2 y2 z2 c1 c2 c3) :
    x2 = x ∧ y2 = y ∧ z2 = z ∧ c1 = false ∧ c2 = false ∧ c3 = false := by
  have hin := fun {x y z} (hx : I64 x) (hy : I64 y) (hz : I64 z) => (hR x y z).trans (Mp.open_room hs hf hx hy hz)
  obtain ⟨⟨p1, p2⟩, ⟨p3, p4⟩, ⟨p5, p6⟩⟩ := (hin hx hy hz).1 hr
  obtain ⟨w1, w2, w3, w4, w5, w6, w7⟩ := id hs
  have i1 : I64 (x + a) := ⟨by omega, by omega⟩
  have i2 : I64 (y + b) := ⟨by omega, by omega⟩
  have i3 : I64 (z + c) := ⟨by omega, by omega⟩
  obtain ⟨o1, o2, o3⟩ := k.opens hR hs hf i1 i2 i3 ⟨by omega, by omega⟩ ⟨by omega, by omega⟩ ⟨by omega, by omega⟩ hr1
  obtain ⟨_, s1, s2, s3⟩ := k.stays hR i1 i2 i3 ⟨by omega, by omega⟩ ⟨by omega, by omega⟩ ⟨by omega, by omega⟩ hr1
  have g1 : c1 = false := by cases hc1 : c1 with | false => rfl | true => exact absurd (show Ins (x + a + -a) M.W 26214 from ⟨by omega, by omega⟩) (o1.1 hc1)
  have g2 : c2 = false := by cases hc1 : c2 with | false => rfl | true => exact absurd (show Ins (y + b + -b) M.D 26214 from ⟨by omega, by omega⟩) (o2.1 hc1)
  have g3 : c3 = false := by cases hc1 : c3 with | false => rfl | true => exact absurd (show Ins (z + c + -c) M.H 58982 from ⟨by omega, by omega⟩) (o3.1 hc1)
  subst g1; subst g2; subst g3
  rcases s1 with ⟨q1, _⟩ | ⟨_, q, _⟩
  · rcases s2 with ⟨q2, _⟩ | ⟨_, q, _⟩
    · rcases s3 with ⟨q3, _⟩ | ⟨_, q, _⟩
      · exact ⟨by omega, by omega, by omega, rfl, rfl, rfl⟩
      · exact absurd q (by decide)
    · exact absurd q (by decide)
  · exact absurd q (by decide)
end Go.Proofs.Ythcmcjklhcfenaa
