/- Layer 2 (ring): four objects beside each other (for RingOwn). -/
import Derived.Test.YtndoocnjdiillaaTbQ
namespace Go.Proofs.Ytndoocnjdiillaa
open Go.RowKit Go.Shelf
set_option linter.unusedVariables false

def upd (S : Nat → Nat → Prop) (i : Nat) (T : Nat → Prop) : Nat → Nat → Prop := fun j => if j = i then T else S j
theorem upd_same (S : Nat → Nat → Prop) (i : Nat) (T : Nat → Prop) : upd S i T i = T := by simp [upd]
theorem upd_other {S : Nat → Nat → Prop} {i j : Nat} {T : Nat → Prop} (h : j ≠ i) : upd S i T j = S j := by simp [upd, h]
/-- Objects apart, all made since B. -/
structure Ap (B : Nat) (w W : World) (S : Nat → Nat → Prop) : Prop where
  below : Below B w W
  le : B ≤ W.heap.size
  d : ∀ i j, i ≠ j → ∀ k, S i k → ¬ S j k
  f : ∀ i k, S i k → B ≤ k
  lt : ∀ i k, S i k → k < W.heap.size
theorem Ap.step {B : Nat} {w W W' : World} {S : Nat → Nat → Prop} {S' : Nat → Prop} (h : Ap B w W S) (i : Nat) (hf : Fr (S i) W W') (hs : Sub W (S i) S') (hl : ∀ k, S' k → k < W'.heap.size) : Ap B w W' (upd S i S') := by
  refine ⟨h.below.trans (hf.below h.le (h.f i)), Nat.le_trans h.le hf.size, ?_, ?_, ?_⟩
  · intro x y hxy k h1 h2
    by_cases hx : x = i
    · subst hx
      rw [upd_same] at h1
      rw [upd_other (fun e => hxy e.symm)] at h2
      rcases hs k h1 with e | e
      · exact h.d _ _ hxy k e h2
      · have := h.lt _ _ h2; omega
    · rw [upd_other hx] at h1
      by_cases hy : y = i
      · subst hy
        rw [upd_same] at h2
        rcases hs k h2 with e | e
        · exact h.d _ _ hxy k h1 e
        · have := h.lt _ _ h1; omega
      · rw [upd_other hy] at h2
        exact h.d _ _ hxy k h1 h2
  · intro x k h1
    by_cases hx : x = i
    · subst hx
      rw [upd_same] at h1
      rcases hs k h1 with e | e
      · exact h.f _ _ e
      · exact Nat.le_trans h.le e
    · rw [upd_other hx] at h1; exact h.f _ _ h1
  · intro x k h1
    by_cases hx : x = i
    · subst hx; rw [upd_same] at h1; exact hl k h1
    · rw [upd_other hx] at h1; exact Nat.lt_of_lt_of_le (h.lt _ _ h1) hf.size
/-- What a table has that was given these, from id 1 on. -/
def tabE (f : Nat → Value) (k : Nat) : List (Nat × Value) := (List.range k).map fun i => (i + 1, f i)
theorem tabE_length (f : Nat → Value) (k : Nat) : (tabE f k).length = k := by simp [tabE]
theorem tabE_succ (f : Nat → Value) (k : Nat) : tabE f (k + 1) = tabE f k ++ [(k + 1, f k)] := by simp [tabE, List.range_succ]
def fe (z : Nat → Int) : Nat → Value := fun j => .int .i64 (z (2 * j))
def fx : Nat → Value := fun _ => .string ⟨#[120]⟩
def fo (z : Nat → Int) : Nat → Int × Int := fun j => (((2 * j + 1 : Nat) : Int), z (2 * j + 1))
/-- Two rings and two tables. -/
structure O4 (z : Nat → Int) (B : Nat) (w W : World) (a b t u ra rb ta tb : Nat) : Prop where
  ex : ∃ S, Ap B w W S ∧ RingAt 82 3 W (S 0) a 5 (lastOf (fe z) 5 ra) ∧ RingAt 85 9 W (S 1) b 5 (lastOf fx 5 rb) ∧ TableAt 88 90 2 W (S 2) t 50 (tabE (fe z) ta) ta ∧ PT W (S 3) u (fo z) tb
section
variable {z : Nat → Int} {B : Nat} {w W : World} {a b t u ra rb ta tb : Nat}
theorem O4.below (h : O4 z B w W a b t u ra rb ta tb) : Below B w W := by obtain ⟨S, h, _⟩ := h; exact h.below
theorem O4.le (h : O4 z B w W a b t u ra rb ta tb) : B ≤ W.heap.size := by obtain ⟨S, h, _⟩ := h; exact h.le
theorem O4.pushI (h : O4 z B w W a b t u ra rb ta tb) {x : Int} (hx : x = z (2 * ra)) :
    Calls Try.prog 13 #[.pointer (some ⟨a, 0, none⟩), .int .i64 x] W fun e W' => (∃ v, e = .returned v) ∧ O4 z B w W' a b t u (ra + 1) rb ta tb := by
  obtain ⟨S, hA, h0, h1, h2, h3⟩ := h
  subst hx
  have hlen := lastOf_length (fe z) 5 ra
  have hP : Calls Try.prog 13 #[.pointer (some ⟨a, 0, none⟩), .int .i64 (z (2 * ra))] W fun e w' => (∃ v, e = .returned v) ∧ ∃ S', RingAt 82 3 w' S' a 5 (lastOf (fe z) 5 (ra + 1)) ∧ Fr (S 0) W w' ∧ Sub W (S 0) S' := by
    by_cases hk : ra < 5
    · refine (pushI_room (S 0) a 5 _ _ W h0 (by rw [hlen]; omega)).mono ?_
      rintro e w' ⟨rfl, S', g1, g2, g3⟩
      have e := lastOf_room (fe z) hk
      rw [show fe z ra = .int .i64 (z (2 * ra)) from rfl] at e
      rw [e] at g1
      exact ⟨⟨_, rfl⟩, S', g1, g2, g3⟩
    · refine (pushI_full (S 0) a 5 _ _ _ W h0 (by rw [hlen]; omega) (lastOf_head _ (by omega) (by omega))).mono ?_
      rintro e w' ⟨rfl, g1, g2⟩
      have e := lastOf_full (fe z) (m := 5) (k := ra) (by omega) (by omega)
      rw [show fe z ra = .int .i64 (z (2 * ra)) from rfl] at e
      rw [e] at g1
      exact ⟨⟨_, rfl⟩, S 0, g1, g2, sub_self _ _⟩
  refine hP.mono ?_
  rintro e w' ⟨hv, S', g1, g2, g3⟩
  refine ⟨hv, ⟨upd S 0 S', hA.step 0 g2 g3 g1.lt, ?_, ?_, ?_, ?_⟩⟩
  · rw [upd_same]; exact g1
  · rw [upd_other (by decide)]; exact h1.keep g2 (hA.d 1 0 (by decide))
  · rw [upd_other (by decide)]; exact h2.keep g2 (hA.d 2 0 (by decide))
  · rw [upd_other (by decide)]; exact h3.keep g2 (hA.d 3 0 (by decide))
theorem O4.pushS (h : O4 z B w W a b t u ra rb ta tb) :
    Calls Try.prog 19 #[.pointer (some ⟨b, 0, none⟩), .string ⟨#[120]⟩] W fun e W' => (∃ v, e = .returned v) ∧ O4 z B w W' a b t u ra (rb + 1) ta tb := by
  obtain ⟨S, hA, h0, h1, h2, h3⟩ := h
  have hlen := lastOf_length fx 5 rb
  have hP : Calls Try.prog 19 #[.pointer (some ⟨b, 0, none⟩), .string ⟨#[120]⟩] W fun e w' => (∃ v, e = .returned v) ∧ ∃ S', RingAt 85 9 w' S' b 5 (lastOf fx 5 (rb + 1)) ∧ Fr (S 1) W w' ∧ Sub W (S 1) S' := by
    by_cases hk : rb < 5
    · refine (pushS_room (S 1) b 5 _ _ W h1 (by rw [hlen]; omega)).mono ?_
      rintro e w' ⟨rfl, S', g1, g2, g3⟩
      have e := lastOf_room fx hk
      rw [show fx rb = .string ⟨#[120]⟩ from rfl] at e
      rw [e] at g1
      exact ⟨⟨_, rfl⟩, S', g1, g2, g3⟩
    · refine (pushS_full (S 1) b 5 _ _ _ W h1 (by rw [hlen]; omega) (lastOf_head _ (by omega) (by omega))).mono ?_
      rintro e w' ⟨rfl, g1, g2⟩
      have e := lastOf_full fx (m := 5) (k := rb) (by omega) (by omega)
      rw [show fx rb = .string ⟨#[120]⟩ from rfl] at e
      rw [e] at g1
      exact ⟨⟨_, rfl⟩, S 1, g1, g2, sub_self _ _⟩
  refine hP.mono ?_
  rintro e w' ⟨hv, S', g1, g2, g3⟩
  refine ⟨hv, ⟨upd S 1 S', hA.step 1 g2 g3 g1.lt, ?_, ?_, ?_, ?_⟩⟩
  · rw [upd_other (by decide)]; exact h0.keep g2 (hA.d 0 1 (by decide))
  · rw [upd_same]; exact g1
  · rw [upd_other (by decide)]; exact h2.keep g2 (hA.d 2 1 (by decide))
  · rw [upd_other (by decide)]; exact h3.keep g2 (hA.d 3 1 (by decide))
theorem O4.addN (h : O4 z B w W a b t u ra rb ta tb) {x : Int} (hx : x = z (2 * ta)) (hk : ta < 50) :
    Calls Try.prog 23 #[.pointer (some ⟨t, 0, none⟩), .int .i64 x] W fun e W' => e = .returned (.tuple #[.int .i64 (ta + 1 : Nat), .int .i64 0]) ∧ O4 z B w W' a b t u ra rb (ta + 1) tb := by
  obtain ⟨S, hA, h0, h1, h2, h3⟩ := h
  subst hx
  refine (addN_room (S 2) t 50 ta _ _ W h2 (by rw [tabE_length]; omega) (by omega)).mono ?_
  rintro e w' ⟨rfl, S', g1, g2, g3⟩
  have e := tabE_succ (fe z) ta
  rw [show fe z ta = .int .i64 (z (2 * ta)) from rfl] at e
  rw [← e] at g1
  refine ⟨rfl, ⟨upd S 2 S', hA.step 2 g2 g3 g1.lt, ?_, ?_, ?_, ?_⟩⟩
  · rw [upd_other (by decide)]; exact h0.keep g2 (hA.d 0 2 (by decide))
  · rw [upd_other (by decide)]; exact h1.keep g2 (hA.d 1 2 (by decide))
  · rw [upd_same]; exact g1
  · rw [upd_other (by decide)]; exact h3.keep g2 (hA.d 3 2 (by decide))
theorem O4.addP (h : O4 z B w W a b t u ra rb ta tb) {x y : Int} (hx : x = ((2 * tb + 1 : Nat) : Int)) (hy : y = z (2 * tb + 1)) (hk : tb < 50) :
    Calls Try.prog 33 #[.pointer (some ⟨u, 0, none⟩), .agg #[.int .i64 x, .int .i64 y]] W fun e W' => e = .returned (.tuple #[.int .i64 (tb + 1 : Nat), .int .i64 0]) ∧ O4 z B w W' a b t u ra rb ta (tb + 1) := by
  obtain ⟨S, hA, h0, h1, h2, h3⟩ := h
  subst hx hy
  refine (addP_room (S 3) u tb (fo z) _ _ W h3 hk rfl).mono ?_
  rintro e w' ⟨rfl, S', g1, g2, g3⟩
  refine ⟨rfl, ⟨upd S 3 S', hA.step 3 g2 g3 g1.lt, ?_, ?_, ?_, ?_⟩⟩
  · rw [upd_other (by decide)]; exact h0.keep g2 (hA.d 0 3 (by decide))
  · rw [upd_other (by decide)]; exact h1.keep g2 (hA.d 1 3 (by decide))
  · rw [upd_other (by decide)]; exact h2.keep g2 (hA.d 2 3 (by decide))
  · rw [upd_same]; exact g1
theorem O4.lenI (h : O4 z B w W a b t u ra rb ta tb) {k : Nat} (hk : min ra 5 = k) :
    Calls Try.prog 15 #[.pointer (some ⟨a, 0, none⟩)] W fun e w' => e = .returned (.int .i64 (k : Nat)) ∧ w' = W := by
  obtain ⟨S, hA, h0, h1, h2, h3⟩ := h
  have := Go.Proofs.Ytndoocnjdiillaa.lenI _ _ _ _ _ h0
  rw [lastOf_length, hk] at this; exact this
theorem O4.lenS (h : O4 z B w W a b t u ra rb ta tb) {k : Nat} (hk : min rb 5 = k) :
    Calls Try.prog 20 #[.pointer (some ⟨b, 0, none⟩)] W fun e w' => e = .returned (.int .i64 (k : Nat)) ∧ w' = W := by
  obtain ⟨S, hA, h0, h1, h2, h3⟩ := h
  have := Go.Proofs.Ytndoocnjdiillaa.lenS _ _ _ _ _ h1
  rw [lastOf_length, hk] at this; exact this
theorem O4.tlenN (h : O4 z B w W a b t u ra rb ta tb) :
    Calls Try.prog 31 #[.pointer (some ⟨t, 0, none⟩)] W fun e w' => e = .returned (.int .i64 (ta : Nat)) ∧ w' = W := by
  obtain ⟨S, hA, h0, h1, h2, h3⟩ := h
  have := Go.Proofs.Ytndoocnjdiillaa.tlenN _ _ _ _ _ _ h2
  rw [tabE_length] at this; exact this
theorem O4.tlenP (h : O4 z B w W a b t u ra rb ta tb) :
    Calls Try.prog 34 #[.pointer (some ⟨u, 0, none⟩)] W fun e w' => e = .returned (.int .i64 (tb : Nat)) ∧ w' = W := by
  obtain ⟨S, hA, h0, h1, h2, h3⟩ := h
  exact Go.Proofs.Ytndoocnjdiillaa.tlenP _ _ _ _ _ h3
theorem O4.last (h : O4 z B w W a b t u ra rb ta tb) : ∃ S, PT W S u (fo z) tb ∧ From B S := by
  obtain ⟨S, hA, h0, h1, h2, h3⟩ := h
  exact ⟨S 3, h3, ⟨hA.f 3⟩⟩
theorem o4_new {W1 W2 W3 W4 W5 : World} (hB : Below B w W1) (hle : B ≤ W1.heap.size)
    (r1 : RingAt 82 3 W2 (fun k => k = W1.heap.size) W1.heap.size 5 []) (b1 : Below W1.heap.size W1 W2)
    (r2 : RingAt 85 9 W3 (fun k => k = W2.heap.size) W2.heap.size 5 []) (b2 : Below W2.heap.size W2 W3)
    (r3 : TableAt 88 90 2 W4 (fun k => k = W3.heap.size) W3.heap.size 50 [] 0) (b3 : Below W3.heap.size W3 W4)
    (r4 : PT W5 (fun k => k = W4.heap.size) W4.heap.size (fo z) 0) (b4 : Below W4.heap.size W4 W5) : O4 z B w W5 W1.heap.size W2.heap.size W3.heap.size W4.heap.size 0 0 0 0 := by
  have l1 := r1.lt _ rfl
  have l2 := r2.lt _ rfl
  have l3 := r3.lt _ rfl
  have l4 := r4.lt _ rfl
  refine ⟨fun i k => (i = 0 ∧ k = W1.heap.size) ∨ (i = 1 ∧ k = W2.heap.size) ∨ (i = 2 ∧ k = W3.heap.size) ∨ (i = 3 ∧ k = W4.heap.size), ⟨?_, ?_, ?_, ?_, ?_⟩, ?_, ?_, ?_, ?_⟩
  · exact hB.trans ((btrans (btrans (btrans b1 b2) b3) b4).mono hle)
  · have := b4.size; omega
  · intro i j hij k h1 h2; omega
  · intro i k h1; omega
  · intro i k h1; have := b4.size; omega
  · rw [lastOf_zero]
    have := ((r1.below b2).below b3).below b4
    simpa using this
  · rw [lastOf_zero]
    have := (r2.below b3).below b4
    simpa using this
  · have := r3.below b4
    simpa [tabE] using this
  · simpa using r4
end
end Go.Proofs.Ytndoocnjdiillaa
