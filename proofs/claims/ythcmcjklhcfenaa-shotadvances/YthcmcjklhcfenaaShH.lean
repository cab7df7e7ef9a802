/- Layer 12 (shot): the hall. -/
import Derived.Test.YthcmcjklhcfenaaShA
import Derived.Test.YthcmcjklhcfenaaTrS
import Derived.DeepKeys
import Derived.Deep.OwnRows
namespace Go.Proofs.Ythcmcjklhcfenaa
open Go.RowKit Go.Shelf
set_option linter.unusedVariables false
set_option linter.unusedSimpArgs false
attribute [local go_sem ↓] Go.wp_at_zero Go.wp_at_succ

/-- Where the hall's spawn lies. -/
structure Sp (w : World) (b : Nat) : Prop where
  obj : w.heap[b]? = some (.cells #[.int .i64 196608, .int .i64 196608, .int .i64 196608] 27 (0, 0))
theorem Sp.o3 {w : World} {b : Nat} (h : Sp w b) : O3 w b 27 (.int .i64 196608) (.int .i64 196608) (.int .i64 196608) := ⟨h.obj⟩
def flo (n : Nat) (i : Nat) : Bool := decide (i < n)
theorem flo_turn (n : Nat) : turnAt (flo n) n true = flo (n + 1) := by
  funext i; unfold turnAt flo
  by_cases h : i = n
  · subst h; simp
  · simp only [if_neg h]; congr 1; simp; omega
theorem O5.set4 {w : World} {b : Nat} {x0 x1 x2 x3 x4 : Value} (h : O5 w b x0 x1 x2 x3 x4) (y : Value) : O5 (w.setCell ⟨b, 4, none⟩ y) b x0 x1 x2 x3 y :=
  ⟨by have := heap_set_same (i := 4) h.obj y; simpa only [List.setIfInBounds_toArray, List.set_cons_zero, List.set_cons_succ] using this⟩
theorem Bs.to {w : World} {g N cap : Nat} {f h : Nat → Bool} (b : Bs w g N cap f) (e : f = h) : Bs w g N cap h := e ▸ b
set_option maxHeartbeats 4000000 in
theorem lawHall12 (w : World) : Calls Try.prog 17 #[] w fun e w' => (∃ g sg, Bs w' g 216 216 (flo 36) ∧ Sp w' sg ∧ w.heap.size ≤ g ∧ w.heap.size ≤ sg ∧ g ≠ sg ∧ e = .returned (.agg #[.int .i64 6, .int .i64 6, .int .i64 6, .slice (some ⟨g, 0, none⟩) 216 216, .slice (some ⟨sg, 0, none⟩) 1 1])) ∧ Below w.heap.size w w' := by
  have hmk := fun W => run_make_row' (P := Try.prog) 22 4 (.bool false) 1 Try.underlying22 info_bool rfl .i64 .i64 216 (by omega) (by omega) W
  have e8 : ((216 : Nat) : Int) = 216 := rfl
  simp only [e8] at hmk
  go_enter Try.func17, Try.ntmps17
  have S0 : Bs (((w.alloc (.cells #[.int .i64 0, .int .i64 0, .int .i64 0, .slice none 0 0, .slice none 0 0] 25)).alloc (.cells (madeCells #[.bool false] 216) 4)).alloc (.cells #[.int .i64 6, .int .i64 6, .int .i64 6, .slice (some ⟨w.heap.size + 1, 0, none⟩) 216 216, .slice none 0 0] 25)) (w.heap.size + 1) 216 216 (flo 0) := ((Bs.made (w := (w.alloc (.cells #[.int .i64 0, .int .i64 0, .int .i64 0, .slice none 0 0, .slice none 0 0] 25)).alloc (.cells (madeCells #[.bool false] 216) 4)) (by have := heap_alloc_new (w.alloc (.cells #[.int .i64 0, .int .i64 0, .int .i64 0, .slice none 0 0, .slice none 0 0] 25)) (.cells (madeCells #[.bool false] 216) 4); simpa using this) (by unfold maxLen; omega)).to (by funext i; rfl)).keep ((Below.refl _ _).alloc (Nat.le_refl _) _)
  have O0 : O5 (((w.alloc (.cells #[.int .i64 0, .int .i64 0, .int .i64 0, .slice none 0 0, .slice none 0 0] 25)).alloc (.cells (madeCells #[.bool false] 216) 4)).alloc (.cells #[.int .i64 6, .int .i64 6, .int .i64 6, .slice (some ⟨w.heap.size + 1, 0, none⟩) 216 216, .slice none 0 0] 25)) w.heap.size (.int .i64 0) (.int .i64 0) (.int .i64 0) (.slice none 0 0) (.slice none 0 0) := ((O5.new _ _ _ _ _ _).alloc _).alloc _
  have M0 : O5 (((w.alloc (.cells #[.int .i64 0, .int .i64 0, .int .i64 0, .slice none 0 0, .slice none 0 0] 25)).alloc (.cells (madeCells #[.bool false] 216) 4)).alloc (.cells #[.int .i64 6, .int .i64 6, .int .i64 6, .slice (some ⟨w.heap.size + 1, 0, none⟩) 216 216, .slice none 0 0] 25)) (w.heap.size + 1 + 1) (.int .i64 6) (.int .i64 6) (.int .i64 6) (.slice (some ⟨w.heap.size + 1, 0, none⟩) 216 216) (.slice none 0 0) := by
    have := O5.new ((w.alloc (.cells #[.int .i64 0, .int .i64 0, .int .i64 0, .slice none 0 0, .slice none 0 0] 25)).alloc (.cells (madeCells #[.bool false] 216) 4)) (.int .i64 6) (.int .i64 6) (.int .i64 6) (.slice (some ⟨w.heap.size + 1, 0, none⟩) 216 216) (.slice none 0 0)
    simpa using this
  have HB : Below w.heap.size w (((w.alloc (.cells #[.int .i64 0, .int .i64 0, .int .i64 0, .slice none 0 0, .slice none 0 0] 25)).alloc (.cells (madeCells #[.bool false] 216) 4)).alloc (.cells #[.int .i64 6, .int .i64 6, .int .i64 6, .slice (some ⟨w.heap.size + 1, 0, none⟩) 216 216, .slice none 0 0] 25)) := (((Below.refl _ _).alloc (Nat.le_refl _) _).alloc (by simp) _).alloc (by simp; omega) _
  go_upto_region 2 with fail
  obtain ⟨mb, hmb⟩ : ∃ b, w.heap.size = b := ⟨_, rfl⟩
  have hwm : w.heap.size ≤ mb := by omega
  rw [hmb] at S0 O0 M0
  try simp only [hmb]
  have eV : ∃ V, ((w.alloc (.cells #[.int .i64 0, .int .i64 0, .int .i64 0, .slice none 0 0, .slice none 0 0] 25)).alloc (.cells (madeCells #[.bool false] 216) 4)).alloc (.cells #[.int .i64 6, .int .i64 6, .int .i64 6, .slice (some ⟨mb + 1, 0, none⟩) 216 216, .slice none 0 0] 25) = V := ⟨_, rfl⟩
  obtain ⟨V1, eV⟩ := eV
  simp only [hmb] at HB
  rw [eV] at S0 O0 M0 HB
  rw [← hmb] at HB
  try simp only [eV]
  clear eV hmk e8
  go_wp2
  go_loopw [2] (fun v wr => ∃ (i : Nat) (V : World), v = .int .i64 i ∧ wr = V ∧ i ≤ 36 ∧ Bs V (mb + 1) 216 216 (flo i) ∧ O5 V mb (.int .i64 0) (.int .i64 0) (.int .i64 0) (.slice none 0 0) (.slice none 0 0) ∧ O5 V (mb + 1 + 1) (.int .i64 6) (.int .i64 6) (.int .i64 6) (.slice (some ⟨mb + 1, 0, none⟩) 216 216) (.slice none 0 0) ∧ Below w.heap.size w V) (fun v _ => 36 - (intOf v).toNat)
  case atStart => exact ⟨0, _, rfl, rfl, Nat.zero_le _, S0, O0, M0, HB⟩
  case round =>
    clear S0 O0 M0 HB
    obtain ⟨i, V, rfl, eV, hi, S, O, M, HB⟩ := hrel
    subst eV
    obtain ⟨m0, m1, m2, m3, m4⟩ := M.cells
    by_cases h : i < 36
    · have hI : (i : Int) < 36 := by omega
      obtain ⟨gc, gf⟩ := S.cell (i := i) (by omega)
      have fr := fr1 wr (mb + 1) i (.bool true)
      have S2 := (S.set (k := i) (by omega) true).to (flo_turn i)
      have O2 := O.fr fr (show ¬ (mb = mb + 1) by omega)
      have M2 := M.fr fr (show ¬ (mb + 1 + 1 = mb + 1) by omega)
      have HB2 := below_fr HB fr (Nat.le_refl _) (by intro k hk; replace hk : k = mb + 1 := hk; omega)
      clear fr S O M HB
      go_wp2
      exact ⟨⟨i + 1, _, by go_num, rfl, by omega, S2, O2, M2, HB2⟩, by simp [intOf]; omega⟩
    · obtain rfl : i = 36 := by omega
      obtain ⟨f0, f1, f2, f3, f4⟩ := (M.alloc (.cells #[.int .i64 196608, .int .i64 196608, .int .i64 196608] 27)).thaw
      obtain ⟨n0, n1, n2, n3, n4⟩ := (M.alloc (.cells #[.int .i64 196608, .int .i64 196608, .int .i64 196608] 27)).cells
      have e36 : ((36 : Nat) : Int) = 36 := rfl
      go_upto_region 7 with fail
      clear n0 n1 n2 n3 n4
      have lM := M.lt
      have S1 := S.keep ((Below.refl _ _).alloc (Nat.le_refl _) (.cells #[.int .i64 196608, .int .i64 196608, .int .i64 196608] 27))
      have O1 := O.alloc (.cells #[.int .i64 196608, .int .i64 196608, .int .i64 196608] 27); have M1 := M.alloc (.cells #[.int .i64 196608, .int .i64 196608, .int .i64 196608] 27)
      have P1 : Sp (wr.alloc (.cells #[.int .i64 196608, .int .i64 196608, .int .i64 196608] 27)) wr.heap.size := ⟨heap_alloc_new wr _⟩
      have HB1 := HB.alloc HB.size (.cells #[.int .i64 196608, .int .i64 196608, .int .i64 196608] 27)
      obtain ⟨sg, hsg⟩ : ∃ b, wr.heap.size = b := ⟨_, rfl⟩
      rw [hsg] at P1 lM
      try simp only [hsg]
      clear S O M HB m0 m1 m2 m3 m4 f0 f1 f2 f3 f4
      generalize wr.alloc (.cells #[.int .i64 196608, .int .i64 196608, .int .i64 196608] 27) = V2 at *
      clear hsg
      have fr := fr1 V2 (mb + 1 + 1) 4 (.slice (some ⟨sg, 0, none⟩) 1 1)
      replace S1 := S1.fr fr (show ¬ (mb + 1 = mb + 1 + 1) by omega); replace O1 := O1.fr fr (show ¬ (mb = mb + 1 + 1) by omega)
      have P2 : Sp _ sg := ⟨(P1.o3.fr fr (show ¬ (sg = mb + 1 + 1) by omega)).obj⟩
      replace M1 := M1.set4 (.slice (some ⟨sg, 0, none⟩) 1 1)
      replace HB1 := below_fr HB1 fr (Nat.le_refl _) (by intro k hk; replace hk : k = mb + 1 + 1 := hk; omega)
      clear P1 fr
      generalize V2.setCell ⟨mb + 1 + 1, 4, none⟩ (.slice (some ⟨sg, 0, none⟩) 1 1) = V3 at *
      obtain ⟨m0, m1, m2, m3, m4⟩ := M1.cells
      obtain ⟨f0, f1, f2, f3, f4⟩ := O1.thaw
      obtain ⟨z0, z1, z2, z3, z4⟩ := O1.cells
      have fr := ((((Fr.refl (fun k => k = mb) V3).setCell (p := ⟨mb, 0, none⟩) rfl (.int .i64 6)).setCell (p := ⟨mb, 1, none⟩) rfl (.int .i64 6)).setCell (p := ⟨mb, 2, none⟩) rfl (.int .i64 6)).setCell (p := ⟨mb, 3, none⟩) rfl (.slice (some ⟨mb + 1, 0, none⟩) 216 216)
      replace fr := fr.setCell (p := ⟨mb, 4, none⟩) rfl (.slice (some ⟨sg, 0, none⟩) 1 1)
      replace S1 := S1.fr fr (show ¬ (mb + 1 = mb) by omega)
      have P3 : Sp _ sg := ⟨(P2.o3.fr fr (show ¬ (sg = mb) by omega)).obj⟩
      replace O1 := O1.set (.int .i64 6) (.int .i64 6) (.int .i64 6) (.slice (some ⟨mb + 1, 0, none⟩) 216 216) (.slice (some ⟨sg, 0, none⟩) 1 1)
      replace HB1 := below_fr HB1 fr (Nat.le_refl _) (by intro k hk; replace hk : k = mb := hk; omega)
      clear fr P2
      go_wp2
      refine bodyPost_ret (v := .agg #[.int .i64 6, .int .i64 6, .int .i64 6, .slice (some ⟨mb + 1, 0, none⟩) 216 216, .slice (some ⟨sg, 0, none⟩) 1 1]) ?_ rfl ⟨⟨mb + 1, sg, S1, P3, by omega, by omega, by omega, rfl⟩, HB1⟩
      clear m0 m1 m2 m3 m4 f0 f1 f2 f3 f4 z0 z1 z2 z3 z4
      obtain ⟨m0, m1, m2, m3, m4⟩ := O1.cells
      simp [results, Try.results17, go_sem, m0, m1, m2, m3, m4]

end Go.Proofs.Ythcmcjklhcfenaa
