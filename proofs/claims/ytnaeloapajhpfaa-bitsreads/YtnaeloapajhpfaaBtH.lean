/- Layer 3 (bits): what the statements show first: shown. -/
import Derived.Test.YtnaeloapajhpfaaBtG
namespace Go.Proofs.Ytnaeloapajhpfaa
open Go.RowKit Go.Shelf
set_option linter.unusedVariables false

theorem WrAt.step {w w' : World} {S S' : Nat → Prop} {B b : Nat} {bs : List Bool} (h : WrAt w' S' b bs) (hf : Fr S w w') (hS : From B S) (hB : B ≤ w.heap.size) : Below B w w' := hf.below hB hS.le
/-- What is new: a writer. -/
theorem from_one (w : World) : From w.heap.size (fun k => k = w.heap.size) := ⟨fun k e => by omega⟩
theorem Row.one {w : World} {B : Nat} {v : Value} {y : Nat} (h : Row w B v [y]) : ∃ p cap, v = .slice (some p) 1 cap ∧ 1 ≤ cap ∧ cap ≤ maxLen ∧ w.cell? p = some (.int .u8 (y : Int)) := by
  obtain ⟨p, cap, rfl, ha⟩ := h.arg
  obtain ⟨b, o, rfl, _, hc⟩ := ha.at (i := 0) (by simp)
  exact ⟨_, cap, rfl, ha.le, ha.most, by have := hc 0 (by simp); simpa using this⟩
theorem Fr.cell {S : Nat → Prop} {w w' : World} (h : Fr S w w') {p : Addr} {v : Value} (hc : w.cell? p = some v) (hS : ¬ S p.block) : w'.cell? p = some v :=
  (World.cell?_of_block (a := p) (h.block _ (World.block_lt_of_cell? _ _ hc) hS)).trans hc
theorem packs_a0 : Packs [160] 5 (low 5 3) := ⟨by decide, by decide, by decide⟩
theorem packs_bf : Packs [191] 0 (low 5 3 ++ low 18446744073709551615 5) := ⟨by decide, by decide, by decide⟩
theorem unpack_a0 : val ((unpack [160]).take 3) = 5 ∧ restB ((unpack [160]).drop 3) = true := by decide
set_option maxRecDepth 100000 in
set_option maxHeartbeats 2000000 in
theorem shown (w : World) :
    Calls Try.prog 11 #[] w fun e w' => e = .returned (.bool true) ∧ Below w.heap.size w w' := by
  go_enter Try.func11, Try.ntmps11
  go_wp2_with fail
  have hw0 := writer_new w
  have hB0 : Below w.heap.size w (w.alloc (.cells #[.slice none 0 0, .int .i64 0] 47)) := (Below.refl _ _).alloc (Nat.le_refl _) _
  generalize w.alloc (.cells #[.slice none 0 0, .int .i64 0] 47) = w0 at *
  refine (put _ _ _ 5 3 w0 hw0 (by simp)).mono ?_
  rintro e w1 ⟨rfl, S1, hw1, hf1, hs1⟩
  have hF1 : From w.heap.size S1 := (from_one w).step hs1 hB0.size
  have hB1 := hB0.trans (hf1.below hB0.size (from_one w).le)
  clear hf1 hs1 hw0 hB0 w0
  have hw1 : WrAt w1 S1 w.heap.size (low 5 3) := hw1
  go_wp2_with fail
  refine (bytesW _ _ _ w1 hw1 (by simp [low])).mono ?_
  rintro e w2 ⟨⟨v2, ys2, f2, rfl, hr2, hp2⟩, hb2⟩
  obtain rfl := hp2.uniq packs_a0
  have hw2 := hw1.below hb2
  have hB2 := hB1.trans (hb2.mono hB1.size)
  obtain ⟨p2, cap2, rfl, h2a, h2b, h2c⟩ := hr2.one
  have HR2 := hid hr2
  have hl1 := hw1.lt
  clear hr2 hp2 hw1 hB1 h2c
  go_wp2_with fail
  refine (signW _ _ _ 18446744073709551615 _ _ w2 hw2 (by simp [low]) (by decide)).mono ?_
  rintro e w3 ⟨rfl, S3, hw3, hf3, hs3⟩
  have hF3 : From w.heap.size S3 := hF1.step hs3 hB2.size
  have hB3 := hB2.trans (hf3.below hB2.size hF1.le)
  have hR3 := HR2.out.fr hf3 hl1
  have hl3 := hw3.lt
  have HR3 := hid hR3
  clear hf3 hs3 hw2 hB2 HR2 hR3 hb2 hl1 hF1
  go_wp2_with fail
  refine (bytesW _ _ _ w3 hw3 (by decide)).mono ?_
  rintro e w4 ⟨⟨v4, ys4, f4, rfl, hr4, hp4⟩, hb4⟩
  obtain rfl := hp4.uniq packs_bf
  have hB4 := hB3.trans (hb4.mono hB3.size)
  obtain ⟨p4, cap4, rfl, h4a, h4b, h4c⟩ := hr4.one
  have HR4 := hid hr4
  have HR5 := hid (HR3.out.below hb4)
  clear hr4 hp4 hB3 h4c HR3 hw3 hl3 hF3
  go_wp2_with fail
  have hb5 : Below w4.heap.size w4 (w4.alloc (.cells #[.int .u8 160] 5)) := (Below.refl _ _).alloc (Nat.le_refl _) _
  have ha5 : Arg (w4.alloc (.cells #[.int .u8 160] 5)) (some ⟨w4.heap.size, 0, none⟩) ([160] : List Nat).length 1 fun i => .int .u8 ((([160] : List Nat).getD i 0 : Nat) : Int) :=
    ⟨Nat.le_refl _, by unfold maxLen; omega, .inr ⟨_, 0, rfl, by simp, fun i hi => by
      obtain rfl : i = 0 := by simp at hi; omega
      rw [cell_of_row _ _ _ _ _ _ (heap_alloc_new w4 _)]; rfl⟩⟩
  have HR6 := hid (HR4.out.below hb5)
  have HR7 := hid (HR5.out.below hb5)
  have hB5 := hB4.trans (hb5.mono hB4.size)
  clear HR4 HR5 hB4
  generalize w4.alloc (.cells #[.int .u8 160] 5) = w5 at *
  refine (newReader _ 1 [160] w5 ha5 (by decide) (by decide)).mono ?_
  rintro e w6 ⟨⟨r, S6, rfl, hrd, hF6⟩, hb6⟩
  obtain ⟨q4, cq4, hq4, _, _, k4⟩ := HR6.out.one
  obtain ⟨q2, cq2, hq2, _, _, k2⟩ := HR7.out.one
  cases hq4; cases hq2
  have b4 := World.block_lt_of_cell? _ _ k4
  have b2 := World.block_lt_of_cell? _ _ k2
  have k4 := (hb6.cell b4).trans k4
  have k2 := (hb6.cell b2).trans k2
  have hB6 := hB5.trans (hb6.mono hB5.size)
  clear HR6 HR7 hb5 ha5
  go_wp2_with fail
  have hg := get_yes S6 r _ 3 w6 hrd (by decide)
  have e3 : cnt 3 = 3 := rfl
  rw [e3, unpack_a0.1] at hg
  refine hg.mono ?_
  rintro e w7 ⟨rfl, hrd7, hf7⟩
  have l4 := hf7.cell k4 (fun e => by have := hF6.le _ e; omega)
  have l2 := hf7.cell k2 (fun e => by have := hF6.le _ e; omega)
  have hB7 := hB6.trans (hf7.below hB6.size (fun k hk => Nat.le_trans hB5.size (hF6.le k hk)))
  have hre := restR S6 r _ w7 hrd7
  rw [unpack_a0.2] at hre
  obtain ⟨pb4, po4, ps4⟩ := p4
  obtain ⟨pb2, po2, ps2⟩ := p2
  clear k4 k2 hg hrd hrd7 hf7 b4 b2 hb6 hF6 hw1
  unfold maxLen at h4b h2b
  go_wp2_with (go_at_call 17; refine hre.mono ?_; rintro e w8 ⟨rfl, _, hb8⟩)
  go_ret
  exact ⟨rfl, hB7.trans (hb8.mono hB7.size)⟩
end Go.Proofs.Ytnaeloapajhpfaa
