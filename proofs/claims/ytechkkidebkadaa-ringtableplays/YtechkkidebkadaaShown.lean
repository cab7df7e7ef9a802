/- Layer 2 (ring): what the statements show first: shown. -/
import Derived.Test.YtechkkidebkadaaTbS
namespace Go.Proofs.Ytechkkidebkadaa
open Go.RowKit
set_option linter.unusedVariables false
attribute [local go_sem ↓] Go.wp_at_zero Go.wp_at_succ

/-- Two parts of memory that have nothing in common. -/
structure Dj (S S' : Nat → Prop) : Prop where
  no : ∀ k, S k → ¬ S' k
theorem Dj.symm {S S' : Nat → Prop} (h : Dj S S') : Dj S' S := ⟨fun k h1 h2 => h.no k h2 h1⟩
theorem Dj.step {w : World} {S S1 S' : Nat → Prop} (h : Dj S S') (hs : Sub w S S1) (hl : ∀ k, S' k → k < w.heap.size) : Dj S1 S' :=
  ⟨fun k h1 h2 => (hs k h1).elim (fun e => h.no k e h2) (fun e => absurd (hl k h2) (by omega))⟩
/-- From a block on. -/
structure From (B : Nat) (S : Nat → Prop) : Prop where
  le : ∀ k, S k → B ≤ k
theorem From.step {B : Nat} {w : World} {S S1 : Nat → Prop} (h : From B S) (hs : Sub w S S1) (hB : B ≤ w.heap.size) : From B S1 :=
  ⟨fun k h1 => (hs k h1).elim (fun e => h.le k e) (fun e => Nat.le_trans hB e)⟩
theorem Below.fr {B : Nat} {a w w' : World} {S : Nat → Prop} (h : Below B a w) (hf : Fr S w w') (hS : From B S) (hB : B ≤ w.heap.size) : Below B a w' := h.trans (hf.below hB hS.le)
theorem RingAt.below {T E : TypeId} {w w' : World} {S : Nat → Prop} {b m : Nat} {xs : List Value} (h : RingAt T E w S b m xs) (hf : Below w.heap.size w w') : RingAt T E w' S b m xs :=
  h.keep (S' := fun _ => False) (Fr.of_below _ hf) (fun _ _ e => e)
/-- Two objects apart, both made since B. -/
structure Sh (B : Nat) (w W : World) (S1 S2 : Nat → Prop) : Prop where
  below : Below B w W
  le : B ≤ W.heap.size
  d : Dj S1 S2
  f1 : From B S1
  f2 : From B S2
theorem Sh.first {B : Nat} {w W W' : World} {S1 S2 S1' : Nat → Prop} (h : Sh B w W S1 S2) (hf : Fr S1 W W') (hs : Sub W S1 S1') (hl : ∀ k, S2 k → k < W.heap.size) : Sh B w W' S1' S2 :=
  ⟨Below.fr h.below hf h.f1 h.le, Nat.le_trans h.le hf.size, h.d.step hs hl, h.f1.step hs h.le, h.f2⟩
theorem Sh.swap {B : Nat} {w W : World} {S1 S2 : Nat → Prop} (h : Sh B w W S1 S2) : Sh B w W S2 S1 := ⟨h.below, h.le, h.d.symm, h.f2, h.f1⟩
theorem Sh.quiet {B : Nat} {w W W' : World} {S1 S2 : Nat → Prop} (h : Sh B w W S1 S2) (hb : Below W.heap.size W W') : Sh B w W' S1 S2 :=
  ⟨h.below.trans (hb.mono h.le), Nat.le_trans h.le hb.size, h.d, h.f1, h.f2⟩
theorem sub_self (w : World) (S : Nat → Prop) : Sub w S S := fun k h => .inl h
theorem alls_nil : AllS [] := fun k hk => absurd hk (by simp)
theorem alls_one (n : Nat) (s : ByteArray) : AllS [(n, .string s)] := fun k hk => by
  obtain rfl : k = 0 := by simp at hk; omega
  exact ⟨s, rfl⟩
set_option maxRecDepth 100000 in
set_option maxHeartbeats 2000000 in
theorem shown_any (w : World) :
    Calls Try.prog 11 #[] w fun e w' => e = .returned (.bool true) ∧ Below w.heap.size w w' := by
  go_enter Try.func11, Try.ntmps11
  go_wp2_with fail
  refine (newS 2 w).mono ?_; rintro e w1 ⟨rfl, hw1⟩
  have hR := ring_new 85 9 w 2 (by omega) (by omega)
  have hB : Below w.heap.size w w1 := by rw [hw1]; exact (Below.refl _ _).alloc (Nat.le_refl _) _
  have hs : w1.heap.size = w.heap.size + 1 := by rw [hw1]; simp
  replace hR : RingAt 85 9 w1 (fun k => k = w.heap.size) w.heap.size 2 [] := by rw [hw1]; exact hR
  clear hw1
  have HS : Hid _ := hs
  clear hs
  go_wp2_with fail
  refine (tnewS 1 w1).mono ?_; rintro e w2 ⟨rfl, hw2⟩
  have hT := table_new 100 102 2 w1 1 (by omega) (by omega)
  have hB2 : Below w1.heap.size w1 w2 := by rw [hw2]; exact (Below.refl _ _).alloc (Nat.le_refl _) _
  replace hT : TableAt 100 102 2 w2 (fun k => k = w1.heap.size) w1.heap.size 1 [] 0 := by rw [hw2]; exact hT
  replace hR := hR.below hB2
  have hD : Dj (fun k => k = w.heap.size) (fun k => k = w1.heap.size) := ⟨fun k h1 h2 => by have := HS.out; omega⟩
  have f1 : From w.heap.size (fun k => k = w.heap.size) := ⟨fun k h => Nat.le_of_eq h.symm⟩
  have f2 : From w.heap.size (fun k => k = w1.heap.size) := ⟨fun k h => by have := HS.out; omega⟩
  replace hB := btrans hB hB2
  have hsh : Sh w.heap.size w w2 (fun k => k = w.heap.size) (fun k => k = w1.heap.size) := ⟨hB, hB.size, hD, f1, f2⟩
  obtain ⟨B, hBB⟩ : ∃ B, w.heap.size = B := ⟨_, rfl⟩
  obtain ⟨t, ht⟩ : ∃ t, w1.heap.size = t := ⟨_, rfl⟩
  rw [ht] at hT hsh
  rw [hBB] at hR hsh
  generalize (fun k => k = B) = S1 at hR hsh
  generalize (fun k => k = t) = S2 at hT hsh
  rw [hBB, ht]
  have HBB : Hid _ := hBB
  clear hw2 hB2 hD f1 f2 hB ht HS hBB w1
  -- three are pushed
  go_wp2_with fail
  refine (pushS_room S1 B 2 [] _ w2 hR (by decide)).mono ?_; rintro e w3 ⟨rfl, S1', hR3, hF3, hs3⟩
  have hT3 := hT.keep hF3 hsh.d.symm.no
  have hsh3 := hsh.first hF3 hs3 hT.lt
  clear hR hT hsh hF3 hs3
  go_wp2_with fail
  refine (pushS_room S1' B 2 _ _ w3 hR3 (by decide)).mono ?_; rintro e w4 ⟨rfl, S1'', hR4, hF4, hs4⟩
  have hT4 := hT3.keep hF4 hsh3.d.symm.no
  have hsh4 := hsh3.first hF4 hs4 hT3.lt
  clear hR3 hT3 hsh3 hF4 hs4
  go_wp2_with fail
  refine (pushS_full S1'' B 2 _ _ _ w4 hR4 (by rfl) rfl).mono ?_; rintro e w5 ⟨rfl, hR5, hF5⟩
  have hT5 := hT4.keep hF5 hsh4.d.symm.no
  have hsh5 := hsh4.first hF5 (sub_self _ _) hT4.lt
  clear hR4 hT4 hsh4 hF5
  go_wp2_with fail
  refine (atS_yes S1'' B 2 _ 0 _ w5 hR5 rfl).mono ?_; rintro e w6 ⟨rfl, b6⟩
  have hR6 := hR5.below b6
  have hT6 := hT5.below b6
  have hsh6 := (hsh5.quiet b6).swap
  clear hR5 hT5 hsh5 b6
  -- the table
  go_wp2_with fail
  refine (addS_room S2 t 1 0 [] _ w6 hT6 (by decide) (by decide)).mono ?_; rintro e w7 ⟨rfl, S2', hT7, hF7, hs7⟩
  have hR7 := hR6.keep hF7 hsh6.d.symm.no
  have hsh7 := hsh6.first hF7 hs7 hR6.lt
  clear hR6 hT6 hsh6 hF7 hs7
  go_wp2_with fail
  refine (addS_full S2' t 1 1 _ _ w7 hT7 rfl).mono ?_; rintro e w8 ⟨rfl, b8⟩
  have hR8 := hR7.below b8
  have hT8 := hT7.below b8
  have hsh8 := hsh7.quiet b8
  clear hR7 hT7 hsh7 b8
  go_wp2_with fail
  refine (dropS_yes S2' t 1 1 _ 1 0 (by decide) w8 hT8 (alls_one _ _) rfl).mono ?_; rintro e w9 ⟨rfl, S3, hT9, hF9, hs9⟩
  have hR9 := hR8.keep hF9 hsh8.d.symm.no
  have hsh9 := hsh8.first hF9 hs9 hR8.lt
  clear hR8 hT8 hsh8 hF9 hs9
  go_wp2_with fail
  refine (addS_room S3 t 1 1 [] _ w9 hT9 (by decide) (by decide)).mono ?_; rintro e w10 ⟨rfl, S4, hTa, hFa, hsa⟩
  have hRa := hR9.keep hFa hsh9.d.symm.no
  have hsha := hsh9.first hFa hsa hR9.lt
  clear hR9 hT9 hsh9 hFa hsa
  go_wp2_with fail
  refine (getS_yes S4 t 1 2 _ 2 0 (by decide) w10 hTa (alls_one _ _) rfl).mono ?_; rintro e w11 ⟨rfl, b11⟩
  have hRb := hRa.below b11
  have hTb := hTa.below b11
  have hshb := hsha.quiet b11
  clear hRa hTa hsha b11
  go_wp2_with fail
  refine (lenS S1'' B 2 _ w11 hRb).mono ?_; rintro e w12 ⟨rfl, rfl⟩
  go_wp2_with fail
  refine (tlenS S4 t 1 2 _ _ hTb).mono ?_; rintro e w13 ⟨rfl, rfl⟩
  go_wp2_with fail
  go_ret
  exact ⟨rfl, by rw [HBB.out]; exact hshb.below⟩
end Go.Proofs.Ytechkkidebkadaa
