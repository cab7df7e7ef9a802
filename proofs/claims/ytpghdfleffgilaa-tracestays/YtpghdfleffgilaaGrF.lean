/- Layer 9 (grid): the contract of (line).next. -/
import Derived.Test.YtpghdfleffgilaaGrE
namespace Go.Proofs.Ytpghdfleffgilaa
open Go.RowKit
set_option linter.unusedVariables false
set_option linter.unusedSimpArgs false
attribute [local go_sem ↓] Go.wp_at_zero Go.wp_at_succ

/-- Three numbers in a box. -/
structure B3 (w : World) (b : Nat) (t : TypeId) (x y z : Int) : Prop where
  obj : w.heap[b]? = some (.cells #[.int .i64 x, .int .i64 y, .int .i64 z] t (0, 0))
theorem B3.lt {w : World} {b : Nat} {t : TypeId} {x y z : Int} (h : B3 w b t x y z) : b < w.heap.size := (Array.getElem?_eq_some_iff.1 h.obj).1
theorem B3.cells {w : World} {b : Nat} {t : TypeId} {x y z : Int} (h : B3 w b t x y z) : w.cell? ⟨b, 0, none⟩ = some (.int .i64 x) ∧ w.cell? ⟨b, 1, none⟩ = some (.int .i64 y) ∧ w.cell? ⟨b, 2, none⟩ = some (.int .i64 z) :=
  ⟨cell_of_row w b 0 _ t (0, 0) h.obj, cell_of_row w b 1 _ t (0, 0) h.obj, cell_of_row w b 2 _ t (0, 0) h.obj⟩
theorem B3.thaw {w : World} {b : Nat} {t : TypeId} {x y z : Int} (h : B3 w b t x y z) : w.frozen? ⟨b, 0, none⟩ = false ∧ w.frozen? ⟨b, 1, none⟩ = false ∧ w.frozen? ⟨b, 2, none⟩ = false := by simp [World.frozen?, h.obj]
theorem B3.below {w w' : World} {b : Nat} {t : TypeId} {x y z : Int} (h : B3 w b t x y z) {B : Nat} (hb : Below B w w') (hB : b < B) : B3 w' b t x y z := ⟨by rw [hb.block b hB]; exact h.obj⟩
theorem B3.keep {w w' : World} {b : Nat} {t : TypeId} {x y z : Int} (h : B3 w b t x y z) (hb : Below w.heap.size w w') : B3 w' b t x y z := h.below hb h.lt
theorem B3.new (w : World) (t : TypeId) (x y z : Int) : B3 (w.alloc (.cells #[.int .i64 x, .int .i64 y, .int .i64 z] t)) w.heap.size t x y z := ⟨heap_alloc_new w _⟩
theorem B3.new' (w : World) (t : TypeId) (x y z : Int) {b : Nat} (hb : b = w.heap.size) : B3 (w.alloc (.cells #[.int .i64 x, .int .i64 y, .int .i64 z] t)) b t x y z := hb ▸ B3.new w t x y z
theorem B3.alloc {w : World} {b : Nat} {t : TypeId} {x y z : Int} (h : B3 w b t x y z) (o : Obj) : B3 (w.alloc o) b t x y z := ⟨by rw [Below.heap_alloc _ _ _ h.lt]; exact h.obj⟩
theorem B3.other {w : World} {b c o : Nat} {t : TypeId} {x y z : Int} (h : B3 w b t x y z) (hc : b ≠ c) (u : Value) : B3 (w.setCell ⟨c, o, none⟩ u) b t x y z := ⟨by rw [Below.heap_setCell _ _ _ _ hc]; exact h.obj⟩
theorem B3.set {w : World} {b : Nat} {t : TypeId} {x y z : Int} (h : B3 w b t x y z) (x' y' z' : Int) : B3 (((w.setCell ⟨b, 0, none⟩ (.int .i64 x')).setCell ⟨b, 1, none⟩ (.int .i64 y')).setCell ⟨b, 2, none⟩ (.int .i64 z')) b t x' y' z' := by
  refine ⟨?_⟩
  have h9 := heap_set_same (i := 2) (heap_set_same (i := 1) (heap_set_same (i := 0) h.obj (.int .i64 x')) (.int .i64 y')) (.int .i64 z')
  simpa only [List.setIfInBounds_toArray, List.set_cons_zero, List.set_cons_succ] using h9
theorem B3.others {w : World} {b c : Nat} {t : TypeId} {x y z : Int} (h : B3 w b t x y z) (hc : b ≠ c) (u v q : Value) : B3 (((w.setCell ⟨c, 0, none⟩ u).setCell ⟨c, 1, none⟩ v).setCell ⟨c, 2, none⟩ q) b t x y z := ((h.other hc u).other hc v).other hc q
theorem below_set3 {B : Nat} {w v : World} (h : Below B w v) {b : Nat} (hb : B ≤ b) (x y z : Value) : Below B w (((v.setCell ⟨b, 0, none⟩ x).setCell ⟨b, 1, none⟩ y).setCell ⟨b, 2, none⟩ z) :=
  ((h.setCell (p := ⟨b, 0, none⟩) hb _).setCell (p := ⟨b, 1, none⟩) hb _).setCell (p := ⟨b, 2, none⟩) hb _
theorem idxL (f1 t1 k1 f2 t2 k2 f3 t3 k3 : Value) : (∀ w, (Instr.index 51 (.agg #[f1, t1, k1, f2, t2, k2, f3, t3, k3]) (.int .i64 0)).run Try.prog w = .ok (.agg #[f1, t1, k1]) w) ∧ (∀ w, (Instr.index 51 (.agg #[f1, t1, k1, f2, t2, k2, f3, t3, k3]) (.int .i64 1)).run Try.prog w = .ok (.agg #[f2, t2, k2]) w) ∧ (∀ w, (Instr.index 51 (.agg #[f1, t1, k1, f2, t2, k2, f3, t3, k3]) (.int .i64 2)).run Try.prog w = .ok (.agg #[f3, t3, k3]) w) :=
  ⟨fun _ => by kernel_rfl, fun _ => by kernel_rfl, fun _ => by kernel_rfl⟩
/-- What is known behind so many axes. -/
inductive Nx (F T C : Nat → Int) (i : Nat) : Bool → Int → Int → Int → Prop where
  | no (h : ∀ j, j < i → ¬ Goes (T j) (C j)) : Nx F T C i false 0 0 0
  | yes (k : Nat) (hk : k < i) (g : Goes (T k) (C k)) (h : ∀ j, j < i → Goes (T j) (C j) → tau (F k) (T k) (C k) ≤ tau (F j) (T j) (C j)) : Nx F T C i true (F k) (T k) (C k)
theorem Nx.skip {F T C : Nat → Int} {i : Nat} {b : Bool} {x y z : Int} (h : Nx F T C i b x y z) (g : ¬ Goes (T i) (C i)) : Nx F T C (i + 1) b x y z := by
  cases h with
  | no h =>
    exact .no fun j hj => by
      by_cases e : j = i
      · rw [e]; exact g
      · exact h j (by omega)
  | yes k hk gk h =>
    exact .yes k (by omega) gk fun j hj gj => by
      by_cases e : j = i
      · rw [e] at gj; exact absurd gj g
      · exact h j (by omega) gj
theorem Nx.first {F T C : Nat → Int} {i : Nat} {x y z : Int} (h : Nx F T C i false x y z) (g : Goes (T i) (C i)) : Nx F T C (i + 1) true (F i) (T i) (C i) := by
  cases h with
  | no h =>
    exact .yes i (by omega) g fun j hj gj => by
      by_cases e : j = i
      · rw [e]; exact Rat.le_refl
      · exact absurd gj (h j (by omega))
theorem Nx.less {F T C : Nat → Int} (hr : ∀ j, Rg (F j) (T j) (C j)) {i : Nat} {x y z : Int} (h : Nx F T C i true x y z) (g : Goes (T i) (C i)) (hl : edgeI (F i) (T i) (C i) * longI x y < edgeI x y z * longI (F i) (T i)) : Nx F T C (i + 1) true (F i) (T i) (C i) := by
  cases h with
  | yes k hk gk h =>
    exact .yes i (by omega) g fun j hj gj => by
      have := (tau_lt ((hr i).long g).1 ((hr k).long gk).1).2 hl
      by_cases e : j = i
      · rw [e]; exact Rat.le_refl
      · have := h j (by omega) gj
        grind
theorem Nx.more {F T C : Nat → Int} (hr : ∀ j, Rg (F j) (T j) (C j)) {i : Nat} {x y z : Int} (h : Nx F T C i true x y z) (g : Goes (T i) (C i)) (hl : ¬ edgeI (F i) (T i) (C i) * longI x y < edgeI x y z * longI (F i) (T i)) : Nx F T C (i + 1) true x y z := by
  cases h with
  | yes k hk gk h =>
    exact .yes k (by omega) gk fun j hj gj => by
      have := (tau_le ((hr k).long gk).1 ((hr i).long g).1).2 (Int.not_lt.1 hl)
      by_cases e : j = i
      · rw [e]; exact this
      · exact h j (by omega) gj
theorem Nx.ok {F T C : Nat → Int} (hok : ∀ j, AxOk (F j) (T j) (C j)) {i : Nat} {x y z : Int} (h : Nx F T C i true x y z) : AxOk x y z := by
  cases h with
  | yes k hk gk h => exact hok k
theorem cmpI_lt {a b : Int} : (cmpI a b < 0) ↔ a < b := by unfold cmpI; split <;> (try split) <;> omega
theorem idx_i {f1 t1 k1 f2 t2 k2 f3 t3 k3 : Int} {i : Nat} (hi : i < 3) : ∀ w, (Instr.index 51 (.agg #[.int .i64 f1, .int .i64 t1, .int .i64 k1, .int .i64 f2, .int .i64 t2, .int .i64 k2, .int .i64 f3, .int .i64 t3, .int .i64 k3]) (.int .i64 (i : Int))).run Try.prog w = .ok (.agg #[.int .i64 (sel f1 f2 f3 i), .int .i64 (sel t1 t2 t3 i), .int .i64 (sel k1 k2 k3 i)]) w := by
  obtain ⟨a, b, c⟩ := idxL (.int .i64 f1) (.int .i64 t1) (.int .i64 k1) (.int .i64 f2) (.int .i64 t2) (.int .i64 k2) (.int .i64 f3) (.int .i64 t3) (.int .i64 k3)
  have : i = 0 ∨ i = 1 ∨ i = 2 := by omega
  rcases this with rfl | rfl | rfl
  · exact a
  · exact b
  · exact c
set_option maxHeartbeats 2000000 in
theorem lineNext0 (f1 t1 k1 f2 t2 k2 f3 t3 k3 : Int) (F T C : Nat → Int) (hF : F = sel f1 f2 f3) (hT : T = sel t1 t2 t3) (hC : C = sel k1 k2 k3) (hok : ∀ i, AxOk (F i) (T i) (C i)) (hr : ∀ i, Rg (F i) (T i) (C i)) (w : World) :
    Calls Try.prog 31 #[.agg #[.int .i64 f1, .int .i64 t1, .int .i64 k1, .int .i64 f2, .int .i64 t2, .int .i64 k2, .int .i64 f3, .int .i64 t3, .int .i64 k3]] w fun e w' => (∃ b x y z, Nx F T C 3 b x y z ∧ e = .returned (.tuple #[.agg #[.int .i64 x, .int .i64 y, .int .i64 z], .bool b])) ∧ Below w.heap.size w w' := by
  have hidx : ∀ i : Nat, i < 3 → ∀ w, (Instr.index 51 (.agg #[.int .i64 f1, .int .i64 t1, .int .i64 k1, .int .i64 f2, .int .i64 t2, .int .i64 k2, .int .i64 f3, .int .i64 t3, .int .i64 k3]) (.int .i64 (i : Int))).run Try.prog w = .ok (.agg #[.int .i64 (F i), .int .i64 (T i), .int .i64 (C i)]) w := fun i hi w => by rw [hF, hT, hC]; exact idx_i hi w
  clear hF hT hC
  have HI := hid hidx
  have HOK := hid hok
  have HR := hid hr
  clear hidx hok hr
  go_enter Try.func31, Try.ntmps31
  go_wp2
  obtain ⟨R, hR⟩ : ∃ b, w.heap.size + 1 = b := ⟨_, rfl⟩
  obtain ⟨P, hP⟩ : ∃ b, R + 1 = b := ⟨_, rfl⟩
  have hwR : w.heap.size < R := by omega
  simp only [hR, hP]
  go_loopw [9, 5] (fun v fv wr => ∃ (i : Nat) (b : Bool) (x y z : Int), v = .int .i64 i ∧ fv = .bool b ∧ i ≤ 3 ∧ Hid (Nx F T C i b x y z) ∧ B3 wr P 49 x y z ∧ B3 wr R 49 0 0 0 ∧ Below w.heap.size w wr) (fun v _ _ => 3 - (intOf v).toNat)
  case atStart =>
    refine ⟨0, false, 0, 0, 0, rfl, rfl, by omega, hid (.no fun j hj => by omega), ?_, ?_, ?_⟩
    · subst hP; subst hR; exact B3.new' _ 49 0 0 0 (by simp)
    · subst hP; subst hR; exact (B3.new' _ 49 0 0 0 (by simp)).alloc _
    · exact ((((Below.refl _ _).alloc (Nat.le_refl _) _).alloc (by simp) _).alloc (by simp; omega) _)
  case round =>
    obtain ⟨i, b, x, y, z, rfl, rfl, hi, hN, hP3, hR3, hB⟩ := hrel
    by_cases h3 : i < 3
    · have hix := HI.out i h3
      have hax := HOK.out i
      obtain ⟨f, hf⟩ : ∃ f, F i = f := ⟨_, rfl⟩
      obtain ⟨t, ht⟩ : ∃ f, T i = f := ⟨_, rfl⟩
      obtain ⟨c, hc⟩ : ∃ f, C i = f := ⟨_, rfl⟩
      rw [hf, ht, hc] at hix hax
      obtain ⟨if1, it1, ic1⟩ := hax.i64
      have hBa := hB.alloc (Nat.le_trans (Nat.le_refl _) hB.size) (.cells #[.int .i64 f, .int .i64 t, .int .i64 c] 49)
      have hPa := hP3.alloc (.cells #[.int .i64 f, .int .i64 t, .int .i64 c] 49)
      have hRa := hR3.alloc (.cells #[.int .i64 f, .int .i64 t, .int .i64 c] 49)
      have hXa := B3.new wr 49 f t c
      have hRP : R ≠ P := by omega
      have hwP : w.heap.size ≤ P := by omega
      by_cases g : Goes t c
      · have e1 := decide_eq_true g
        cases b with
        | false =>
          have hN2 := hid (hN.out.first (by rw [ht, hc]; exact g))
          rw [hf, ht, hc] at hN2
          clear hf ht hc
          go_wp2_with fail
          refine (axisGoes f t c it1 _).mono ?_; rintro e W1 ⟨rfl, b1⟩
          have hPW := hPa.keep b1
          have hRW := hRa.keep b1
          have hXW := hXa.keep b1
          have hBW := hBa.trans (b1.mono hBa.size)
          clear b1 hPa hRa hBa hB hP3 hR3 hXa
          obtain ⟨x0, x1, x2⟩ := hXW.cells
          obtain ⟨p0, p1, p2⟩ := hPW.cells
          obtain ⟨z0, z1, z2⟩ := hPW.thaw
          go_wp2
          refine ⟨⟨i + 1, true, f, t, c, by go_num, rfl, by omega, hN2, hPW.set f t c, hRW.others hRP _ _ _, below_set3 hBW hwP _ _ _⟩, by simp [intOf]; omega⟩
        | true =>
          have hxy := hN.out.ok HOK.out
          by_cases hl : edgeI f t c * longI x y < edgeI x y z * longI f t
          · have hN2 := hid (hN.out.less HR.out (by rw [ht, hc]; exact g) (by rw [hf, ht, hc]; exact hl))
            rw [hf, ht, hc] at hN2
            have hlt := cmpI_lt.2 hl
            clear hf ht hc hl
            go_wp2_with fail
            refine (axisGoes f t c it1 _).mono ?_; rintro e W1 ⟨rfl, b1⟩
            have hPV := hPa.keep b1
            have hRV := hRa.keep b1
            have hXV := hXa.keep b1
            have hBV := hBa.trans (b1.mono hBa.size)
            clear b1 hPa hRa hBa hB hP3 hR3 hXa
            obtain ⟨x0, x1, x2⟩ := hXV.cells
            obtain ⟨p0, p1, p2⟩ := hPV.cells
            go_wp2_with fail
            refine (axisAgainst f t c x y z hax hxy _).mono ?_; rintro e W2 ⟨rfl, b2⟩
            have hPW := hPV.keep b2
            have hRW := hRV.keep b2
            have hXW := hXV.keep b2
            have hBW := hBV.trans (b2.mono hBV.size)
            clear b2 hPV hRV hBV hXV x0 x1 x2 p0 p1 p2
            obtain ⟨x0, x1, x2⟩ := hXW.cells
            obtain ⟨p0, p1, p2⟩ := hPW.cells
            obtain ⟨z0, z1, z2⟩ := hPW.thaw
            generalize cmpI (edgeI f t c * longI x y) (edgeI x y z * longI f t) = q at *
            go_wp2
            refine ⟨⟨i + 1, true, f, t, c, by go_num, rfl, by omega, hN2, hPW.set f t c, hRW.others hRP _ _ _, below_set3 hBW hwP _ _ _⟩, by simp [intOf]; omega⟩
          · have hN2 := hid (hN.out.more HR.out (by rw [ht, hc]; exact g) (by rw [hf, ht, hc]; exact hl))
            have hlt : ¬ (cmpI (edgeI f t c * longI x y) (edgeI x y z * longI f t) < 0) := fun e => hl (cmpI_lt.1 e)
            clear hf ht hc hl
            go_wp2_with fail
            refine (axisGoes f t c it1 _).mono ?_; rintro e W1 ⟨rfl, b1⟩
            have hPV := hPa.keep b1
            have hRV := hRa.keep b1
            have hXV := hXa.keep b1
            have hBV := hBa.trans (b1.mono hBa.size)
            clear b1 hPa hRa hBa hB hP3 hR3 hXa
            obtain ⟨x0, x1, x2⟩ := hXV.cells
            obtain ⟨p0, p1, p2⟩ := hPV.cells
            go_wp2_with fail
            refine (axisAgainst f t c x y z hax hxy _).mono ?_; rintro e W2 ⟨rfl, b2⟩
            have hPW := hPV.keep b2
            have hRW := hRV.keep b2
            have hBW := hBV.trans (b2.mono hBV.size)
            clear b2 hPV hRV hBV hXV x0 x1 x2 p0 p1 p2
            generalize cmpI (edgeI f t c * longI x y) (edgeI x y z * longI f t) = q at *
            have hlt' : (0 : Int) ≤ q := by omega
            go_wp2
            exact ⟨⟨i + 1, true, x, y, z, by go_num, rfl, by omega, hN2, hPW, hRW, hBW⟩, by simp [intOf]; omega⟩
      · have e1 := decide_eq_false g
        have hN2 := hid (hN.out.skip (by rw [ht, hc]; exact g))
        clear hf ht hc
        go_wp2_with fail
        refine (axisGoes f t c it1 _).mono ?_; rintro e W1 ⟨rfl, b1⟩
        have hP1 := hPa.keep b1
        have hR1 := hRa.keep b1
        have hB1 := hBa.trans (b1.mono hBa.size)
        clear b1 hPa hRa hBa hB hP3 hR3
        go_wp2
        exact ⟨⟨i + 1, b, x, y, z, by go_num, rfl, by omega, hN2, hP1, hR1, hB1⟩, by simp [intOf]; omega⟩
    · obtain rfl : i = 3 := by omega
      obtain ⟨p0, p1, p2⟩ := hP3.cells
      obtain ⟨z0, z1, z2⟩ := hR3.thaw
      obtain ⟨y0, y1, y2⟩ := hR3.cells
      have hfin := hR3.set x y z
      have hBf := below_set3 hB (by omega : w.heap.size ≤ R) (.int .i64 x) (.int .i64 y) (.int .i64 z)
      go_wp2
      generalize ((wr.setCell ⟨R, 0, none⟩ (.int .i64 x)).setCell ⟨R, 1, none⟩ (.int .i64 y)).setCell ⟨R, 2, none⟩ (.int .i64 z) = V at *
      obtain ⟨v0, v1, v2⟩ := hfin.cells
      refine bodyPost_ret (v := .tuple #[.agg #[.int .i64 x, .int .i64 y, .int .i64 z], .bool b]) ?_ rfl ⟨⟨b, x, y, z, hN.out, rfl⟩, hBf⟩
      simp [results, Try.results31, go_sem, v0, v1, v2]
end Go.Proofs.Ytpghdfleffgilaa
