/- Layer 10 (trace): small; what must be in any case (shown). -/
import Derived.Test.YtpghdfleffgilaaTrE
import Derived.Deep.OwnRows
namespace Go.Proofs.Ytpghdfleffgilaa
open Go.RowKit Go.Shelf
set_option linter.unusedVariables false
set_option linter.unusedSimpArgs false
attribute [local go_sem ↓] Go.wp_at_zero Go.wp_at_succ

theorem Bs.made {w : World} {g n : Nat} (h : w.heap[g]? = some (.cells (madeCells #[.bool false] n) 4 (0, 0))) (hn : n ≤ maxLen) : Bs w g n n nof :=
  ⟨Nat.le_refl _, hn, _, h, fun i hi => by
    rw [← Array.getElem?_toList, toList_madeCells_one]
    simp [hi, nof]⟩
set_option maxHeartbeats 1000000 in
theorem trSmall (W D H : Int) (mp : Option Addr) (mn mc : Nat) (mf : Nat → Bool) (sp : Option Addr) (sn sc : Nat) (hm : mn ≤ mc) (hm2 : mc ≤ maxLen) (w : World) :
    Calls Try.prog 11 #[.agg #[.int .i64 W, .int .i64 D, .int .i64 H, .slice mp mn mc, .slice sp sn sc]] w fun e w' => e = .returned (.agg #[.int .i64 W, .int .i64 D, .int .i64 H, .slice mp ((min mn 32768 : Nat) : Nat) mc, .slice sp sn sc]) ∧ Below w.heap.size w w' := by
  unfold maxLen at hm2
  obtain ⟨a, ha⟩ : ∃ a, min mn 32768 = a := ⟨_, rfl⟩
  have la : a ≤ mn := by omega
  have lac : (a : Int) ≤ mc := by omega
  have min_a : ∀ ts t W, (Builtin.min_ ts t #[.int .i64 (mn : Int), .int .i64 32768]).run Try.prog W = .ok (.int .i64 (a : Int)) W := min_is ha
  rw [ha]
  clear ha
  go_enter Try.func11, Try.ntmps11
  go_wp2
  refine bodyPost_ret (v := .agg #[.int .i64 W, .int .i64 D, .int .i64 H, .slice mp a mc, .slice sp sn sc]) ?_ rfl ⟨rfl, ?_⟩
  · simp [results, Try.results11, go_sem]
  · exact ((Below.refl _ _).alloc (Nat.le_refl _) _).alloc (by simp) _

/-- The room of two cells. -/
def twoM : Mp := mpOf 2 2 2 8 (turnAt nof 1 true)
theorem two_sized : twoM.Sized := by simp [twoM, Mp.Sized, mpOf]
theorem two_a : twoM.Room 32768 32768 65536 := by
  intro _ _ _ x y z a1 a2 a3 a4 a5 a6
  simp [sat] at a1 a2 a3 a4 a5 a6
  have ex : x = 0 := by omega
  have ey : y = 0 := by omega
  have ez : z = 0 ∨ z = 1 := by omega
  subst ex; subst ey
  rcases ez with rfl | rfl <;> decide
theorem two_c : twoM.Room 32768 65536 65536 := by
  intro _ _ _ x y z a1 a2 a3 a4 a5 a6
  simp [sat] at a1 a2 a3 a4 a5 a6
  have ex : x = 0 := by omega
  have ey : y = 0 ∨ y = 1 := by omega
  have ez : z = 0 ∨ z = 1 := by omega
  subst ex
  rcases ey with rfl | rfl <;> rcases ez with rfl | rfl <;> decide
theorem two_b : ¬ twoM.Room 65536 32768 65536 := fun h => by
  have := h (by decide) (by decide) (by decide) 1 0 0 (by decide) (by decide) (by decide) (by decide) (by decide) (by decide)
  exact absurd this (by decide)
theorem two_d : ¬ twoM.Room 0 0 0 := fun h => by
  have := (h.inside ⟨by omega, by omega⟩ ⟨by omega, by omega⟩ ⟨by omega, by omega⟩).2.1.1
  omega
theorem two_slid {R : Int → Int → Int → Bool} (hR : ∀ x y z, R x y z = true ↔ twoM.Room x y z) : Slid R 32768 32768 65536 (fclamp 32768 32768) (fclamp 32768 32768) (fclamp 0 32768) 32768 65536 65536 true false false := by
  have ra : R 32768 65536 65536 = true := (hR _ _ _).2 two_c
  have rb : R 65536 32768 65536 = false := by
    cases h : R 65536 32768 65536 with
    | false => rfl
    | true => exact absurd ((hR _ _ _).1 h) two_b
  rw [show fclamp 32768 32768 = 32768 by decide, show fclamp 0 32768 = 0 by decide]
  have s1 : sat (32768 + 32768) = 65536 := by decide
  have s2 : sat (65536 + 0) = 65536 := by decide
  refine ⟨?_, ?_, ?_, ?_, ?_, ?_⟩
  · rw [s1, rb]; rfl
  · rw [s1, ra]; decide
  · rw [s2, ra]; decide
  · rw [s1, rb]; rfl
  · rw [s1, ra]; rfl
  · rw [s2, ra]; rfl

set_option maxHeartbeats 4000000 in
theorem trShown (w : World) :
    Calls Try.prog 10 #[] w fun e w' => e = .returned (.bool true) ∧ Below w.heap.size w w' := by
  have hmk := fun W => run_make_row' (P := Try.prog) 22 4 (.bool false) 1 Try.underlying22 info_bool rfl .i64 .i64 8 (by omega) (by omega) W
  have e8 : ((8 : Nat) : Int) = 8 := rfl
  simp only [e8] at hmk
  go_enter Try.func10, Try.ntmps10
  go_upto_region 2 with fail
  have S0 : Bs (w.alloc (.cells (madeCells #[.bool false] 8) 4)) w.heap.size 8 8 nof := Bs.made (heap_alloc_new w _) (by unfold maxLen; omega)
  have S1 := S0.keep ((Below.refl _ _).alloc (Nat.le_refl _) (.cells #[.int .i64 2, .int .i64 2, .int .i64 2, .slice (some ⟨w.heap.size, 0, none⟩) 8 8, .slice none 0 0] 25))
  have O1 := O5.new (w.alloc (.cells (madeCells #[.bool false] 8) 4)) (.int .i64 2) (.int .i64 2) (.int .i64 2) (.slice (some ⟨w.heap.size, 0, none⟩) 8 8) (.slice none 0 0)
  have B1 : Below w.heap.size w ((w.alloc (.cells (madeCells #[.bool false] 8) 4)).alloc (.cells #[.int .i64 2, .int .i64 2, .int .i64 2, .slice (some ⟨w.heap.size, 0, none⟩) 8 8, .slice none 0 0] 25)) := ((Below.refl _ _).alloc (Nat.le_refl _) _).alloc (by simp) _
  have hmb : (w.alloc (.cells (madeCells #[.bool false] 8) 4)).heap.size = w.heap.size + 1 := by simp
  rw [hmb] at O1
  obtain ⟨g, hg⟩ : ∃ b, w.heap.size = b := ⟨_, rfl⟩
  rw [hg] at S1 O1
  have B1 : Below w.heap.size w ((w.alloc (.cells (madeCells #[.bool false] 8) 4)).alloc (.cells #[.int .i64 2, .int .i64 2, .int .i64 2, .slice (some ⟨g, 0, none⟩) 8 8, .slice none 0 0] 25)) := by subst hg; exact B1
  have hgw : w.heap.size ≤ g := by omega
  try simp only [hg]
  clear S0 hmb hmk
  generalize (w.alloc (.cells (madeCells #[.bool false] 8) 4)).alloc (.cells #[.int .i64 2, .int .i64 2, .int .i64 2, .slice (some ⟨g, 0, none⟩) 8 8, .slice none 0 0] 25) = V1 at *
  obtain ⟨m0, m1, m2, m3, m4⟩ := O1.cells
  obtain ⟨gc, gf⟩ := S1.cell (i := 1) (by omega)
  go_upto_region 3 with fail
  replace S1 := S1.set (k := 1) (by omega) true
  replace O1 := O1.other (show g + 1 ≠ g by omega) (o := 1) (.bool true)
  replace B1 := B1.setCell (p := ⟨g, 1, none⟩) hgw (.bool true)
  clear m0 m1 m2 m3 m4 gc gf
  generalize V1.setCell ⟨g, 1, none⟩ (.bool true) = V2 at *
  have P1 := O3.new V2 27 (.int .i64 32768) (.int .i64 32768) (.int .i64 65536)
  obtain ⟨pb, hpb⟩ : ∃ b, V2.heap.size = b := ⟨_, rfl⟩
  rw [hpb] at P1
  replace S1 := S1.keep ((Below.refl _ _).alloc (Nat.le_refl _) (.cells #[.int .i64 32768, .int .i64 32768, .int .i64 65536] 27))
  replace O1 := O1.alloc (.cells #[.int .i64 32768, .int .i64 32768, .int .i64 65536] 27)
  replace B1 := B1.alloc B1.size (.cells #[.int .i64 32768, .int .i64 32768, .int .i64 65536] 27)
  go_upto_region 4 with fail
  try simp only [hpb]
  generalize V2.alloc (.cells #[.int .i64 32768, .int .i64 32768, .int .i64 65536] 27) = V3 at *
  obtain ⟨R, hR⟩ := twoM.roomOf
  obtain ⟨m0, m1, m2, m3, m4⟩ := O1.cells
  obtain ⟨p0, p1, p2⟩ := P1.cells
  go_wp2_with fail
  refine (traceSlide 2 2 2 (some ⟨g, 0, none⟩) 8 8 (turnAt nof 1 true) none 0 0 R hR 32768 32768 65536 32768 32768 0 ⟨by omega, by omega⟩ ⟨by omega, by omega⟩ ⟨by omega, by omega⟩ ⟨by omega, by omega⟩ ⟨by omega, by omega⟩ ⟨by omega, by omega⟩ _ _ _ _ _ _ (two_slid hR) _ S1.arg).mono ?_; rintro e V4 ⟨rfl, q1⟩
  replace S1 := S1.keep q1; replace O1 := O1.keep q1; replace P1 := P1.keep q1; replace B1 := hid (btrans B1 q1)
  clear q1 m0 m1 m2 m3 m4 p0 p1 p2
  go_upto_region 5 with fail
  have q3 := O3.new V4 27 (.int .i64 32768) (.int .i64 65536) (.int .i64 65536)
  have Q1 := q3.alloc (.cells #[.bool true, .bool false, .bool false] 30)
  have Z1 := O3.new (V4.alloc (.cells #[.int .i64 32768, .int .i64 65536, .int .i64 65536] 27)) 30 (.bool true) (.bool false) (.bool false)
  have hz : (V4.alloc (.cells #[.int .i64 32768, .int .i64 65536, .int .i64 65536] 27)).heap.size = V4.heap.size + 1 := by simp
  rw [hz] at Z1
  have qq : Below V4.heap.size V4 ((V4.alloc (.cells #[.int .i64 32768, .int .i64 65536, .int .i64 65536] 27)).alloc (.cells #[.bool true, .bool false, .bool false] 30)) := ((Below.refl _ _).alloc (Nat.le_refl _) _).alloc (by simp) _
  replace S1 := S1.keep qq; replace O1 := O1.keep qq; replace P1 := P1.keep qq; replace B1 := hid (btrans B1.out qq)
  clear qq q3 hz
  obtain ⟨qb, hqb⟩ : ∃ b, V4.heap.size = b := ⟨_, rfl⟩
  rw [hqb] at Q1 Z1
  try simp only [hqb]
  generalize (V4.alloc (.cells #[.int .i64 32768, .int .i64 65536, .int .i64 65536] 27)).alloc (.cells #[.bool true, .bool false, .bool false] 30) = V5 at *
  clear hqb
  obtain ⟨m0, m1, m2, m3, m4⟩ := O1.cells
  obtain ⟨p0, p1, p2⟩ := P1.cells
  have ra : R 32768 32768 65536 = true := (hR _ _ _).2 two_a
  have rd : R 0 0 0 = false := by
    cases h : R 0 0 0 with
    | false => rfl
    | true => exact absurd ((hR _ _ _).1 h) two_d
  go_wp2_with fail
  refine (traceFree 2 2 2 (some ⟨g, 0, none⟩) 8 8 (turnAt nof 1 true) none 0 0 R hR 32768 32768 65536 ⟨by omega, by omega⟩ ⟨by omega, by omega⟩ ⟨by omega, by omega⟩ _ S1.arg).mono ?_; rintro e V6 ⟨rfl, q1⟩
  rw [ra]
  replace S1 := S1.keep q1; replace O1 := O1.keep q1; replace P1 := P1.keep q1; replace B1 := hid (btrans B1.out q1); replace Q1 := Q1.keep q1; replace Z1 := Z1.keep q1
  clear q1 m0 m1 m2 m3 m4 p0 p1 p2
  obtain ⟨m0, m1, m2, m3, m4⟩ := O1.cells
  obtain ⟨p0, p1, p2⟩ := P1.cells
  go_wp2_with fail
  refine (traceFree 2 2 2 (some ⟨g, 0, none⟩) 8 8 (turnAt nof 1 true) none 0 0 R hR 0 0 0 ⟨by omega, by omega⟩ ⟨by omega, by omega⟩ ⟨by omega, by omega⟩ _ S1.arg).mono ?_; rintro e V7 ⟨rfl, q1⟩
  rw [rd]
  replace S1 := S1.keep q1; replace O1 := O1.keep q1; replace P1 := P1.keep q1; replace B1 := hid (btrans B1.out q1); replace Q1 := Q1.keep q1; replace Z1 := Z1.keep q1
  clear q1 m0 m1 m2 m3 m4 p0 p1 p2
  obtain ⟨p0, p1, p2⟩ := P1.cells
  obtain ⟨k0, k1, k2⟩ := Q1.cells
  obtain ⟨z0, z1, z2⟩ := Z1.cells
  have he := fun W => eq3b true false false true false false W
  go_wp2
  go_ret
  exact ⟨rfl, B1.out⟩
end Go.Proofs.Ytpghdfleffgilaa
