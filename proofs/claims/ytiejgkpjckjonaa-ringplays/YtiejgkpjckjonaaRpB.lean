/- Layer 2 (ring): the walk of the law RingPlays. -/
import Derived.Test.YtiejgkpjckjonaaRpA
import Derived.Test.YtiejgkpjckjonaaLwD
namespace Go.Proofs.Ytiejgkpjckjonaa
open Go.RowKit Go.Shelf
set_option linter.unusedVariables false
attribute [local go_sem] Oper.semAt_some

/-- Who goes. -/
def goes (z : Nat → Int) (m k : Nat) : Int × Bool := if k < m then (0, false) else (z (k - m), true)
def vz (z : Nat → Int) : Nat → Value := fun i => .int .i64 (z i)
theorem pushI_last (S : Nat → Prop) (b m k : Nat) (z : Nat → Int) (h1 : 1 ≤ m) (w : World) (h : RingAt 82 3 w S b m (lastOf (vz z) m k)) :
    Calls Try.prog 13 #[.pointer (some ⟨b, 0, none⟩), .int .i64 (z k)] w fun e w' => e = .returned (.tuple #[.int .i64 (goes z m k).1, .bool (goes z m k).2]) ∧ ∃ S', RingAt 82 3 w' S' b m (lastOf (vz z) m (k + 1)) ∧ Fr S w w' ∧ Sub w S S' := by
  have hl := lastOf_length (vz z) m k
  unfold goes
  by_cases hk : k < m
  · rw [if_pos hk]
    refine (pushI_room S b m _ (z k) w h (by omega)).mono ?_
    rintro e w' ⟨rfl, S', h2, h3, h4⟩
    exact ⟨rfl, S', by rw [← lastOf_room (vz z) hk]; exact h2, h3, h4⟩
  · rw [if_neg hk]
    refine (pushI_full S b m _ (z k) _ w h (by omega) (lastOf_head (vz z) h1 (by omega))).mono ?_
    rintro e w' ⟨rfl, h2, h3⟩
    exact ⟨rfl, S, by rw [← lastOf_full (vz z) h1 (by omega)]; exact h2, h3, fun k hk => .inl hk⟩
theorem refPush_last (S : Nat → Prop) (rb : Nat) (mo : Int) (m k : Nat) (z : Nat → Int) (a : Option Addr) (cap : Nat) (h1 : 1 ≤ m) (h2 : m ≤ 1000) (hm : max mo 1 = (m : Int)) (w : World) (h : RefR w S rb mo (lastOf (vz z) m k) a cap) :
    Calls Try.prog 14 #[.pointer (some ⟨rb, 0, none⟩), .int .i64 (z k)] w fun e w' => e = .returned (.tuple #[.int .i64 (goes z m k).1, .bool (goes z m k).2]) ∧ ∃ S' a' cap', RefR w' S' rb mo (lastOf (vz z) m (k + 1)) a' cap' ∧ Fr S w w' ∧ Sub w S S' := by
  have hl := lastOf_length (vz z) m k
  unfold goes
  refine refPush S rb mo m _ a cap (z k) w h (by omega) hm _ ?_ ?_
  · intro hlm w' S' a' cap' k1 k2 k3
    rw [if_pos (by omega)]
    have hk : k < m := by omega
    exact ⟨rfl, S', a', cap', by rw [← lastOf_room (vz z) hk]; exact k1, k2, k3⟩
  · intro hlm v w' S' a' cap' hv k1 k2 k3
    rw [if_neg (by omega)]
    have hk : m ≤ k := by omega
    have hh := lastOf_head (vz z) h1 hk
    have hne : lastOf (vz z) m k ≠ [] := fun e => by rw [e] at hh; cases hh
    rw [List.head?_append, hh] at hv
    cases hv
    rw [List.tail_append_of_ne_nil hne] at k1
    exact ⟨rfl, S', a', cap', by rw [← lastOf_full (vz z) h1 hk]; exact k1, k2, k3⟩
theorem RefR.elem {W : World} {S : Nat → Prop} {rb : Nat} {mo : Int} {xs : List Value} {g o cap : Nat} (h : RefR W S rb mo xs (some ⟨g, o, none⟩) cap) {i : Nat} {v : Value} (hi : xs[i]? = some v) : W.cell? ⟨g, o + i, none⟩ = some v := by
  obtain ⟨hl, rfl⟩ := List.getElem?_eq_some_iff.1 hi
  rcases h.row with ⟨_, e, _⟩ | ⟨g', o', e, _, _, hc⟩
  · cases e
  · cases e; exact hc i hl
/-- Both rings, beside each other. -/
structure PI (B b rb pb m : Nat) (mo : Int) (xs ys : List Value) (Ds : List Nat) (W : World) (S1 S2 : Nat → Prop) (a : Option Addr) (cp : Nat) : Prop where
  ring : RingAt 82 3 W S1 b m xs
  ref : RefR W S2 rb mo ys a cp
  dj : ∀ k, S1 k → ¬ S2 k
  f1 : ∀ k, S1 k → B < k
  f2 : ∀ k, S2 k → B < k
  p1 : ¬ S1 pb
  p2 : ¬ S2 pb
  d1 : ∀ D ∈ Ds, ¬ S1 D
  d2 : ∀ D ∈ Ds, ¬ S2 D
  marks : Marks W Ds
  nd : Ds.Nodup
  ge : ∀ D ∈ Ds, B ≤ D
  vb : Vr W B 4 (.bool false)
  vp : Vr W pb 26 (.pointer (some ⟨rb, 0, none⟩))
variable {B b rb pb m : Nat} {mo : Int} {xs ys : List Value} {Ds : List Nat} {W W' : World} {S1 S2 S' : Nat → Prop} {a : Option Addr} {cp : Nat}
theorem mark_lt (h : Marks W Ds) {D : Nat} (hD : D ∈ Ds) : D < W.heap.size := (Array.getElem?_eq_some_iff.1 (h D hD)).1
theorem PI.below (h : PI B b rb pb m mo xs ys Ds W S1 S2 a cp) (hb : Below W.heap.size W W') : PI B b rb pb m mo xs ys Ds W' S1 S2 a cp :=
  ⟨h.ring.below hb, h.ref.below hb, h.dj, h.f1, h.f2, h.p1, h.p2, h.d1, h.d2, h.marks.below hb, h.nd, h.ge, h.vb.below hb h.vb.lt, h.vp.below hb h.vp.lt⟩
theorem PI.push1 (h : PI B b rb pb m mo xs ys Ds W S1 S2 a cp) {zs : List Value} (hr : RingAt 82 3 W' S' b m zs) (hf : Fr S1 W W') (hs : Sub W S1 S') : PI B b rb pb m mo zs ys Ds W' S' S2 a cp := by
  have hB := h.vb.lt; have hP := h.vp.lt
  refine ⟨hr, h.ref.keep hf (fun k h2 h1 => h.dj k h1 h2), fun k hk => ?_, fun k hk => ?_, h.f2, fun hk => ?_, h.p2, fun D hD hk => ?_, h.d2, h.marks.fr hf h.d1, h.nd, h.ge, h.vb.fr hf (fun e => by have := h.f1 _ e; omega), h.vp.fr hf h.p1⟩
  · rcases hs k hk with e | e
    · exact h.dj k e
    · intro e2; have := h.ref.lt k e2; omega
  · rcases hs k hk with e | e
    · exact h.f1 k e
    · omega
  · rcases hs _ hk with e | e
    · exact h.p1 e
    · omega
  · rcases hs _ hk with e | e
    · exact h.d1 D hD e
    · have := mark_lt h.marks hD; omega
theorem PI.push2 (h : PI B b rb pb m mo xs ys Ds W S1 S2 a cp) {zs : List Value} {a' : Option Addr} {cp' : Nat} (hr : RefR W' S' rb mo zs a' cp') (hf : Fr S2 W W') (hs : Sub W S2 S') : PI B b rb pb m mo xs zs Ds W' S1 S' a' cp' := by
  have hB := h.vb.lt; have hP := h.vp.lt
  refine ⟨h.ring.keep hf h.dj, hr, fun k h1 hk => ?_, h.f1, fun k hk => ?_, h.p1, fun hk => ?_, h.d1, fun D hD hk => ?_, h.marks.fr hf h.d2, h.nd, h.ge, h.vb.fr hf (fun e => by have := h.f2 _ e; omega), h.vp.fr hf h.p2⟩
  · rcases hs k hk with e | e
    · exact h.dj k h1 e
    · have := h.ring.lt k h1; omega
  · rcases hs k hk with e | e
    · exact h.f2 k e
    · omega
  · rcases hs _ hk with e | e
    · exact h.p2 e
    · omega
  · rcases hs _ hk with e | e
    · exact h.d2 D hD e
    · have := mark_lt h.marks hD; omega
/-- Behind a range: what it turned is beside all. -/
theorem PI.keepC {L : Nat} (h : PI B b rb pb m mo xs ys Ds W S1 S2 a cp) (hk : Kc (fun j => j = L ∨ j = B) W W') (hL : ¬ S1 L) (hL2 : ¬ S2 L) (hP : pb ≠ L) (hPB : pb ≠ B) (hv : Vr W' B 4 (.bool false)) {D : Nat} (hD : D ∉ Ds) (hDB : W.heap.size ≤ D) (hM : Marks W' (D :: Ds)) : PI B b rb pb m mo xs ys (D :: Ds) W' S1 S2 a cp := by
  have hB := h.vb.lt
  refine ⟨h.ring.keepC hk (fun k h1 e => ?_), h.ref.keepC hk (fun k h1 e => ?_), h.dj, h.f1, h.f2, h.p1, h.p2, fun D' hD' h1 => ?_, fun D' hD' h1 => ?_, hM, List.nodup_cons.2 ⟨hD, h.nd⟩, fun D' hD' => ?_, hv, h.vp.keepC hk (fun e => by omega)⟩
  · rcases e with rfl | rfl
    · exact hL h1
    · have := h.f1 _ h1; omega
  · rcases e with rfl | rfl
    · exact hL2 h1
    · have := h.f2 _ h1; omega
  · rcases List.mem_cons.1 hD' with rfl | e
    · have := h.ring.lt _ h1; omega
    · exact h.d1 _ e h1
  · rcases List.mem_cons.1 hD' with rfl | e
    · have := h.ref.lt _ h1; omega
    · exact h.d2 _ e h1
  · rcases List.mem_cons.1 hD' with rfl | e
    · omega
    · exact h.ge _ e
end Go.Proofs.Ytiejgkpjckjonaa
