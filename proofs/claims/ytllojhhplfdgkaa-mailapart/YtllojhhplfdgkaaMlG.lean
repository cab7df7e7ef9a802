/- Layer 7 (mail): what must be in any case. -/
import Derived.Test.YtllojhhplfdgkaaMlF
namespace Go.Proofs.Ytllojhhplfdgkaa
open Go.Conc Go.RowKit Go.Shelf
set_option linter.unusedVariables false
set_option linter.unusedSimpArgs false
attribute [local go_sem ↓] Go.wp_at_zero Go.wp_at_succ

/-- A box, of what a call has laid. -/
theorem newI_at (m : Int) (w : World) : Calls Try.prog 8 #[.int .i64 m] w fun e w' => e = .returned (.pointer (some ⟨w.heap.size + 1, 0, none⟩)) ∧ MBI w' (fun k => k = w.heap.size ∨ k = w.heap.size + 1) (w.heap.size + 1) w.heap.size (room m) [] 0 ∧ Below w.heap.size w w' := by
  refine (newI m w).mono ?_; rintro e w' ⟨rfl, rfl⟩
  exact ⟨rfl, MBox.new _ _ w (room m), ((Below.refl _ _).alloc (Nat.le_refl _) _).alloc (by simp) _⟩
theorem newS_at (m : Int) (w : World) : Calls Try.prog 19 #[.int .i64 m] w fun e w' => e = .returned (.pointer (some ⟨w.heap.size + 1, 0, none⟩)) ∧ MBS w' (fun k => k = w.heap.size ∨ k = w.heap.size + 1) (w.heap.size + 1) w.heap.size (room m) [] 0 ∧ Below w.heap.size w w' := by
  refine (newS m w).mono ?_; rintro e w' ⟨rfl, rfl⟩
  exact ⟨rfl, MBox.new _ _ w (room m), ((Below.refl _ _).alloc (Nat.le_refl _) _).alloc (by simp) _⟩
theorem refNewAt (m : Int) (w : World) : Calls Try.prog 9 #[.int .i64 m] w fun e w' => e = .returned (.pointer (some ⟨w.heap.size, 0, none⟩)) ∧ RB w' (fun k => k = w.heap.size) w.heap.size (room m) [] 0 ∧ Below w.heap.size w w' := by
  refine (refNew m w).mono ?_; rintro e w' ⟨rfl, rfl⟩
  exact ⟨rfl, refNew_at w (room m), (Below.refl _ _).alloc (Nat.le_refl _) _⟩
theorem from_two {w : World} : From w.heap.size (fun k => k = w.heap.size ∨ k = w.heap.size + 1) := ⟨fun k hk => by rcases hk with hk | hk <;> omega⟩
theorem from_one {w : World} : From w.heap.size (fun k => k = w.heap.size) := ⟨fun k hk => by omega⟩
set_option maxRecDepth 100000 in
set_option maxHeartbeats 1000000 in
theorem shown7 (w : World) : Calls Try.prog 7 #[] w fun e w' => e = .returned (.bool true) ∧ Below w.heap.size w w' := by
  have hn := newS_at 1 w
  go_enter Try.func7, Try.ntmps7
  go_wp2_with fail
  refine hn.mono ?_; rintro e w1 ⟨rfl, h1, b1⟩
  have hp := putS h1 ⟨#[97]⟩ (by omega)
  have hr : room 1 = 1 := rfl
  rw [hr] at hp
  simp only [List.length_nil, Nat.lt_add_one, if_true, decide_true, List.nil_append, Nat.zero_add, Nat.lt_one_iff] at hp
  have F1 : From w.heap.size _ := from_two (w := w)
  clear hn h1
  go_wp2_with fail
  refine hp.mono ?_; rintro e w2 ⟨rfl, S2, h2, f2, s2⟩
  have F2 := F1.step s2 b1.size
  have b2 := Below.fr b1 f2 F1 b1.size
  have hq := putS h2 ⟨#[98]⟩ (by omega)
  simp only [List.length_cons, List.length_nil, Nat.zero_add, Nat.lt_irrefl, if_false, decide_false] at hq
  clear hp h2
  go_wp2_with fail
  refine hq.mono ?_; rintro e w3 ⟨rfl, S3, h3, f3, s3⟩
  have F3 := F2.step s3 b2.size
  have b3 := Below.fr b2 f3 F2 b2.size
  have ht := takeS h3
  clear hq h3
  go_wp2_with fail
  refine ht.mono ?_; rintro e w4 ⟨rfl, h4, f4⟩
  have b4 := Below.fr b3 f4 F3 b3.size
  have hu := takeNoS h4
  have hl := lostS h4
  have B4 := hid b4
  clear ht h4 b1 b2 b3 b4 f2 f3 f4 s2 s3 F1 F2 F3
  go_wp2_with fail
  refine hu.mono ?_; rintro e w5 ⟨rfl, hw⟩
  rw [hw]
  clear hw w5
  go_wp2_with fail
  refine hl.mono ?_; rintro e w5 ⟨rfl, hw⟩
  rw [hw]
  clear hw w5
  go_wp2_with fail
  go_ret
  exact ⟨rfl, B4.out⟩
end Go.Proofs.Ytllojhhplfdgkaa
