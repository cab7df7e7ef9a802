/- Layer 1's own answers (embrasureref01): Plus. -/
import Derived.Test.YtfgbkmcbpmmfdaaRefF
namespace Go.Proofs.Ytfgbkmcbpmmfdaa
open Go.RowKit
set_option linter.unusedVariables false
attribute [local go_sem ↓] Go.wp_at_zero Go.wp_at_succ

/-- A sign and a size. -/
def sgn (s : Bool) (n : Nat) : Int := if s then -(n : Int) else (n : Int)
theorem BoxS.drew {w W : World} {s t : Bool} {x y : Value} (h : BoxS w s t x y W) : BoxS w s t x y W.drew := h.keep (Below.refl _ _).drew
theorem BoxS.start0 (w : World) (s t : Bool) (x y z0 z1 : Value) (T : TypeId) : BoxS w s t x y (((w.alloc (.cells #[.bool s, x] T)).alloc (.cells #[.bool t, y] T)).alloc (.cells #[z0, z1] T)) :=
  ⟨by simp, by simp [go_sem], by simp [go_sem], by simp [go_sem], by simp [go_sem], rdv_of (v := z0) (by simp [go_sem]), rdv_of (v := z1) (by simp [go_sem]), by simp [go_sem], by simp [go_sem], (((Below.refl _ _).alloc (Nat.le_refl _) _).alloc (by simp) _).alloc (by simp; omega) _⟩

set_option maxHeartbeats 4000000 in
theorem refPlusSameF (a b : Option Addr) (ca cb : Nat) (xs ys : List Nat) (w : World) (h : Row w a ca xs) (k : Row w b cb ys) (lx : xs.length ≤ 100) (ly : ys.length ≤ 100) :
    Calls Try.prog 41 #[.agg #[.bool false, .slice a xs.length ca], .agg #[.bool false, .slice b ys.length cb]] w fun e w' =>
      (∃ s c cc rs, e = .returned (.agg #[.bool s, .slice c rs.length cc]) ∧ Row w' c cc rs ∧ sgn s (val rs) = sgn false (val xs) + sgn false (val ys) ∧ Trim rs ∧ rs.length ≤ xs.length + ys.length + 1 ∧ Fresh w.heap.size c) ∧ Below w.heap.size w w' := by
  have hst := BoxS.start w false false (.slice a xs.length ca) (.slice b ys.length cb) (.bool false) (.slice none 0 0) 43
  go_enter Try.func41, Try.ntmps41
  go_wp2
  unfold BoxS at hst
  go_region_held3 (fun W => w.heap.size + 1 + 1 < W.heap.size ∧ W.cell? ⟨w.heap.size, 0, none⟩ = some (.bool false) ∧ W.cell? ⟨w.heap.size, 1, none⟩ = some (.slice a xs.length ca) ∧ W.cell? ⟨w.heap.size + 1, 0, none⟩ = some (.bool false) ∧ W.cell? ⟨w.heap.size + 1, 1, none⟩ = some (.slice b ys.length cb) ∧
      W.cell? ⟨w.heap.size + 1 + 1, 0, none⟩ = some (rdv W (w.heap.size + 1 + 1) 0) ∧ W.cell? ⟨w.heap.size + 1 + 1, 1, none⟩ = some (rdv W (w.heap.size + 1 + 1) 1) ∧ W.frozen? ⟨w.heap.size + 1 + 1, 0, none⟩ = false ∧ W.frozen? ⟨w.heap.size + 1 + 1, 1, none⟩ = false ∧ Below w.heap.size w W)
    (first | assumption | exact BoxS.keep (by assumption) (by assumption) | exact BoxS.set (by assumption) _ _)
    ((go_at_call 65; refine (refSum a b ca cb xs ys _ (h.keep (by go_split_ands; assumption)) (k.keep (by go_split_ands; assumption)) lx ly).mono ?_; rintro e w1 ⟨⟨c, cc, rs, rfl, hrow, hv, ht, hl, hfr⟩, bel1⟩))
  rename_i hH
  obtain ⟨t0, t1⟩ := two_back hH.2.2.2.2.2.1 hH.2.2.2.2.2.2.1
  have hB := hH.2.2.2.2.2.2.2.2.2
  have hz := hst.1
  have hrow2 := (hrow.store hfr (p := ⟨w.heap.size + 1 + 1, 0, none⟩) hz (.bool false)).store hfr (p := ⟨w.heap.size + 1 + 1, 1, none⟩) hz (.slice c rs.length cc)
  have hfr2 : Fresh w.heap.size c := fun x hx => by have := hfr x hx; omega
  clear hH hfr
  go_wp2
  refine bodyPost_ret (v := .agg #[.bool false, .slice c rs.length cc]) ?_ rfl ⟨⟨false, c, cc, rs, rfl, hrow2, by rw [hv]; simp [sgn]; try omega, ht, by omega, hfr2⟩, hB⟩
  simp [results, Try.results41, go_sem, t0, t1]

set_option maxHeartbeats 4000000 in
theorem refPlusSameT (a b : Option Addr) (ca cb : Nat) (xs ys : List Nat) (w : World) (h : Row w a ca xs) (k : Row w b cb ys) (lx : xs.length ≤ 100) (ly : ys.length ≤ 100) :
    Calls Try.prog 41 #[.agg #[.bool true, .slice a xs.length ca], .agg #[.bool true, .slice b ys.length cb]] w fun e w' =>
      (∃ s c cc rs, e = .returned (.agg #[.bool s, .slice c rs.length cc]) ∧ Row w' c cc rs ∧ sgn s (val rs) = sgn true (val xs) + sgn true (val ys) ∧ Trim rs ∧ rs.length ≤ xs.length + ys.length + 1 ∧ Fresh w.heap.size c) ∧ Below w.heap.size w w' := by
  have hst := BoxS.start w true true (.slice a xs.length ca) (.slice b ys.length cb) (.bool false) (.slice none 0 0) 43
  go_enter Try.func41, Try.ntmps41
  go_wp2
  unfold BoxS at hst
  go_region_held3 (fun W => w.heap.size + 1 + 1 < W.heap.size ∧ W.cell? ⟨w.heap.size, 0, none⟩ = some (.bool true) ∧ W.cell? ⟨w.heap.size, 1, none⟩ = some (.slice a xs.length ca) ∧ W.cell? ⟨w.heap.size + 1, 0, none⟩ = some (.bool true) ∧ W.cell? ⟨w.heap.size + 1, 1, none⟩ = some (.slice b ys.length cb) ∧
      W.cell? ⟨w.heap.size + 1 + 1, 0, none⟩ = some (rdv W (w.heap.size + 1 + 1) 0) ∧ W.cell? ⟨w.heap.size + 1 + 1, 1, none⟩ = some (rdv W (w.heap.size + 1 + 1) 1) ∧ W.frozen? ⟨w.heap.size + 1 + 1, 0, none⟩ = false ∧ W.frozen? ⟨w.heap.size + 1 + 1, 1, none⟩ = false ∧ Below w.heap.size w W)
    (first | assumption | exact BoxS.keep (by assumption) (by assumption) | exact BoxS.set (by assumption) _ _)
    ((go_at_call 65; refine (refSum a b ca cb xs ys _ (h.keep (by go_split_ands; assumption)) (k.keep (by go_split_ands; assumption)) lx ly).mono ?_; rintro e w1 ⟨⟨c, cc, rs, rfl, hrow, hv, ht, hl, hfr⟩, bel1⟩))
  rename_i hH
  obtain ⟨t0, t1⟩ := two_back hH.2.2.2.2.2.1 hH.2.2.2.2.2.2.1
  have hB := hH.2.2.2.2.2.2.2.2.2
  have hz := hst.1
  have hrow2 := (hrow.store hfr (p := ⟨w.heap.size + 1 + 1, 0, none⟩) hz (.bool true)).store hfr (p := ⟨w.heap.size + 1 + 1, 1, none⟩) hz (.slice c rs.length cc)
  have hfr2 : Fresh w.heap.size c := fun x hx => by have := hfr x hx; omega
  clear hH hfr
  go_wp2
  refine bodyPost_ret (v := .agg #[.bool true, .slice c rs.length cc]) ?_ rfl ⟨⟨true, c, cc, rs, rfl, hrow2, by rw [hv]; simp [sgn]; try omega, ht, by omega, hfr2⟩, hB⟩
  simp [results, Try.results41, go_sem, t0, t1]

set_option maxHeartbeats 4000000 in
theorem refPlusDiffF (a b : Option Addr) (ca cb : Nat) (xs ys : List Nat) (w : World) (h : Row w a ca xs) (k : Row w b cb ys) (tx : Trim xs) (ty : Trim ys) (lx : xs.length ≤ 100) (ly : ys.length ≤ 100) :
    Calls Try.prog 41 #[.agg #[.bool false, .slice a xs.length ca], .agg #[.bool true, .slice b ys.length cb]] w fun e w' =>
      (∃ s c cc rs, e = .returned (.agg #[.bool s, .slice c rs.length cc]) ∧ Row w' c cc rs ∧ sgn s (val rs) = sgn false (val xs) + sgn true (val ys) ∧ Trim rs ∧ rs.length ≤ xs.length + ys.length + 1 ∧ Fresh w.heap.size c) ∧ Below w.heap.size w w' := by
  have hst := BoxS.start0 w false true (.slice a xs.length ca) (.slice b ys.length cb) (.bool false) (.slice none 0 0) 43
  go_enter Try.func41, Try.ntmps41
  go_wp2_with fail
  refine (refMore b a cb ca ys xs _ (k.keep hst.2.2.2.2.2.2.2.2.2) (h.keep hst.2.2.2.2.2.2.2.2.2) ty tx).mono ?_
  rintro e w0 ⟨rfl, bel0⟩
  have hst1 := BoxS.keep bel0 hst
  have hst2 := hst1.drew
  clear hst bel0
  have hB0 := hst1.2.2.2.2.2.2.2.2.2
  have c0 := hst1.2.1; have c1 := hst1.2.2.1; have c2 := hst1.2.2.2.1; have c3 := hst1.2.2.2.2.1
  by_cases hlt : val xs < val ys
  · have hd : decide (val xs < val ys) = true := decide_eq_true hlt
    rw [hd]
    clear hd
    go_wp2
    unfold BoxS at hst2
    clear c0 c1 c2 c3
    go_region_held3 (fun W => w.heap.size + 1 + 1 < W.heap.size ∧ W.cell? ⟨w.heap.size, 0, none⟩ = some (.bool false) ∧ W.cell? ⟨w.heap.size, 1, none⟩ = some (.slice a xs.length ca) ∧ W.cell? ⟨w.heap.size + 1, 0, none⟩ = some (.bool true) ∧ W.cell? ⟨w.heap.size + 1, 1, none⟩ = some (.slice b ys.length cb) ∧
      W.cell? ⟨w.heap.size + 1 + 1, 0, none⟩ = some (rdv W (w.heap.size + 1 + 1) 0) ∧ W.cell? ⟨w.heap.size + 1 + 1, 1, none⟩ = some (rdv W (w.heap.size + 1 + 1) 1) ∧ W.frozen? ⟨w.heap.size + 1 + 1, 0, none⟩ = false ∧ W.frozen? ⟨w.heap.size + 1 + 1, 1, none⟩ = false ∧ Below w.heap.size w W)
      (first | assumption | exact BoxS.keep (by assumption) (by assumption) | exact BoxS.set (by assumption) _ _)
      ((go_at_call 67; refine (refLess b a cb ca ys xs _ (k.keep (by go_split_ands; assumption)) (h.keep (by go_split_ands; assumption)) ly tx (by omega)).mono ?_; rintro e w1 ⟨⟨c, cc, rs, rfl, hrow, hv, ht, hl, hfr⟩, bel1⟩))
    rename_i hH
    obtain ⟨t0, t1⟩ := two_back hH.2.2.2.2.2.1 hH.2.2.2.2.2.2.1
    have hB := hH.2.2.2.2.2.2.2.2.2
    have hz := hst2.1
    have hrow2 := (hrow.store hfr (p := ⟨w.heap.size + 1 + 1, 0, none⟩) hz (.bool true)).store hfr (p := ⟨w.heap.size + 1 + 1, 1, none⟩) hz (.slice c rs.length cc)
    have hfr2 : Fresh w.heap.size c := fun x hx => by have := hfr x hx; omega
    clear hH hfr
    go_wp2
    refine bodyPost_ret (v := .agg #[.bool true, .slice c rs.length cc]) ?_ rfl ⟨⟨true, c, cc, rs, rfl, hrow2, by simp [sgn]; omega, ht, by omega, hfr2⟩, hB⟩
    simp [results, Try.results41, go_sem, t0, t1]
  · have hd : decide (val xs < val ys) = false := decide_eq_false hlt
    rw [hd]
    clear hd
    go_wp2
    unfold BoxS at hst2
    clear c0 c1 c2 c3
    go_region_held3 (fun W => w.heap.size + 1 + 1 < W.heap.size ∧ W.cell? ⟨w.heap.size, 0, none⟩ = some (.bool false) ∧ W.cell? ⟨w.heap.size, 1, none⟩ = some (.slice a xs.length ca) ∧ W.cell? ⟨w.heap.size + 1, 0, none⟩ = some (.bool true) ∧ W.cell? ⟨w.heap.size + 1, 1, none⟩ = some (.slice b ys.length cb) ∧
      W.cell? ⟨w.heap.size + 1 + 1, 0, none⟩ = some (rdv W (w.heap.size + 1 + 1) 0) ∧ W.cell? ⟨w.heap.size + 1 + 1, 1, none⟩ = some (rdv W (w.heap.size + 1 + 1) 1) ∧ W.frozen? ⟨w.heap.size + 1 + 1, 0, none⟩ = false ∧ W.frozen? ⟨w.heap.size + 1 + 1, 1, none⟩ = false ∧ Below w.heap.size w W)
      (first | assumption | exact BoxS.keep (by assumption) (by assumption) | exact BoxS.set (by assumption) _ _)
      ((go_at_call 67; refine (refLess a b ca cb xs ys _ (h.keep (by go_split_ands; assumption)) (k.keep (by go_split_ands; assumption)) lx ty (by omega)).mono ?_; rintro e w1 ⟨⟨c, cc, rs, rfl, hrow, hv, ht, hl, hfr⟩, bel1⟩))
    rename_i hH
    obtain ⟨t0, t1⟩ := two_back hH.2.2.2.2.2.1 hH.2.2.2.2.2.2.1
    have hB := hH.2.2.2.2.2.2.2.2.2
    have hz := hst2.1
    have hrow2 := (hrow.store hfr (p := ⟨w.heap.size + 1 + 1, 0, none⟩) hz (.bool false)).store hfr (p := ⟨w.heap.size + 1 + 1, 1, none⟩) hz (.slice c rs.length cc)
    have hfr2 : Fresh w.heap.size c := fun x hx => by have := hfr x hx; omega
    clear hH hfr
    go_wp2
    refine bodyPost_ret (v := .agg #[.bool false, .slice c rs.length cc]) ?_ rfl ⟨⟨false, c, cc, rs, rfl, hrow2, by simp [sgn]; omega, ht, by omega, hfr2⟩, hB⟩
    simp [results, Try.results41, go_sem, t0, t1]

set_option maxHeartbeats 4000000 in
theorem refPlusDiffT (a b : Option Addr) (ca cb : Nat) (xs ys : List Nat) (w : World) (h : Row w a ca xs) (k : Row w b cb ys) (tx : Trim xs) (ty : Trim ys) (lx : xs.length ≤ 100) (ly : ys.length ≤ 100) :
    Calls Try.prog 41 #[.agg #[.bool true, .slice a xs.length ca], .agg #[.bool false, .slice b ys.length cb]] w fun e w' =>
      (∃ s c cc rs, e = .returned (.agg #[.bool s, .slice c rs.length cc]) ∧ Row w' c cc rs ∧ sgn s (val rs) = sgn true (val xs) + sgn false (val ys) ∧ Trim rs ∧ rs.length ≤ xs.length + ys.length + 1 ∧ Fresh w.heap.size c) ∧ Below w.heap.size w w' := by
  have hst := BoxS.start0 w true false (.slice a xs.length ca) (.slice b ys.length cb) (.bool false) (.slice none 0 0) 43
  go_enter Try.func41, Try.ntmps41
  go_wp2_with fail
  refine (refMore b a cb ca ys xs _ (k.keep hst.2.2.2.2.2.2.2.2.2) (h.keep hst.2.2.2.2.2.2.2.2.2) ty tx).mono ?_
  rintro e w0 ⟨rfl, bel0⟩
  have hst1 := BoxS.keep bel0 hst
  have hst2 := hst1.drew
  clear hst bel0
  have hB0 := hst1.2.2.2.2.2.2.2.2.2
  have c0 := hst1.2.1; have c1 := hst1.2.2.1; have c2 := hst1.2.2.2.1; have c3 := hst1.2.2.2.2.1
  by_cases hlt : val xs < val ys
  · have hd : decide (val xs < val ys) = true := decide_eq_true hlt
    rw [hd]
    clear hd
    go_wp2
    unfold BoxS at hst2
    clear c0 c1 c2 c3
    go_region_held3 (fun W => w.heap.size + 1 + 1 < W.heap.size ∧ W.cell? ⟨w.heap.size, 0, none⟩ = some (.bool true) ∧ W.cell? ⟨w.heap.size, 1, none⟩ = some (.slice a xs.length ca) ∧ W.cell? ⟨w.heap.size + 1, 0, none⟩ = some (.bool false) ∧ W.cell? ⟨w.heap.size + 1, 1, none⟩ = some (.slice b ys.length cb) ∧
      W.cell? ⟨w.heap.size + 1 + 1, 0, none⟩ = some (rdv W (w.heap.size + 1 + 1) 0) ∧ W.cell? ⟨w.heap.size + 1 + 1, 1, none⟩ = some (rdv W (w.heap.size + 1 + 1) 1) ∧ W.frozen? ⟨w.heap.size + 1 + 1, 0, none⟩ = false ∧ W.frozen? ⟨w.heap.size + 1 + 1, 1, none⟩ = false ∧ Below w.heap.size w W)
      (first | assumption | exact BoxS.keep (by assumption) (by assumption) | exact BoxS.set (by assumption) _ _)
      ((go_at_call 67; refine (refLess b a cb ca ys xs _ (k.keep (by go_split_ands; assumption)) (h.keep (by go_split_ands; assumption)) ly tx (by omega)).mono ?_; rintro e w1 ⟨⟨c, cc, rs, rfl, hrow, hv, ht, hl, hfr⟩, bel1⟩))
    rename_i hH
    obtain ⟨t0, t1⟩ := two_back hH.2.2.2.2.2.1 hH.2.2.2.2.2.2.1
    have hB := hH.2.2.2.2.2.2.2.2.2
    have hz := hst2.1
    have hrow2 := (hrow.store hfr (p := ⟨w.heap.size + 1 + 1, 0, none⟩) hz (.bool false)).store hfr (p := ⟨w.heap.size + 1 + 1, 1, none⟩) hz (.slice c rs.length cc)
    have hfr2 : Fresh w.heap.size c := fun x hx => by have := hfr x hx; omega
    clear hH hfr
    go_wp2
    refine bodyPost_ret (v := .agg #[.bool false, .slice c rs.length cc]) ?_ rfl ⟨⟨false, c, cc, rs, rfl, hrow2, by simp [sgn]; omega, ht, by omega, hfr2⟩, hB⟩
    simp [results, Try.results41, go_sem, t0, t1]
  · have hd : decide (val xs < val ys) = false := decide_eq_false hlt
    rw [hd]
    clear hd
    go_wp2
    unfold BoxS at hst2
    clear c0 c1 c2 c3
    go_region_held3 (fun W => w.heap.size + 1 + 1 < W.heap.size ∧ W.cell? ⟨w.heap.size, 0, none⟩ = some (.bool true) ∧ W.cell? ⟨w.heap.size, 1, none⟩ = some (.slice a xs.length ca) ∧ W.cell? ⟨w.heap.size + 1, 0, none⟩ = some (.bool false) ∧ W.cell? ⟨w.heap.size + 1, 1, none⟩ = some (.slice b ys.length cb) ∧
      W.cell? ⟨w.heap.size + 1 + 1, 0, none⟩ = some (rdv W (w.heap.size + 1 + 1) 0) ∧ W.cell? ⟨w.heap.size + 1 + 1, 1, none⟩ = some (rdv W (w.heap.size + 1 + 1) 1) ∧ W.frozen? ⟨w.heap.size + 1 + 1, 0, none⟩ = false ∧ W.frozen? ⟨w.heap.size + 1 + 1, 1, none⟩ = false ∧ Below w.heap.size w W)
      (first | assumption | exact BoxS.keep (by assumption) (by assumption) | exact BoxS.set (by assumption) _ _)
      ((go_at_call 67; refine (refLess a b ca cb xs ys _ (h.keep (by go_split_ands; assumption)) (k.keep (by go_split_ands; assumption)) lx ty (by omega)).mono ?_; rintro e w1 ⟨⟨c, cc, rs, rfl, hrow, hv, ht, hl, hfr⟩, bel1⟩))
    rename_i hH
    obtain ⟨t0, t1⟩ := two_back hH.2.2.2.2.2.1 hH.2.2.2.2.2.2.1
    have hB := hH.2.2.2.2.2.2.2.2.2
    have hz := hst2.1
    have hrow2 := (hrow.store hfr (p := ⟨w.heap.size + 1 + 1, 0, none⟩) hz (.bool true)).store hfr (p := ⟨w.heap.size + 1 + 1, 1, none⟩) hz (.slice c rs.length cc)
    have hfr2 : Fresh w.heap.size c := fun x hx => by have := hfr x hx; omega
    clear hH hfr
    go_wp2
    refine bodyPost_ret (v := .agg #[.bool true, .slice c rs.length cc]) ?_ rfl ⟨⟨true, c, cc, rs, rfl, hrow2, by simp [sgn]; omega, ht, by omega, hfr2⟩, hB⟩
    simp [results, Try.results41, go_sem, t0, t1]

theorem refPlus (s t : Bool) (a b : Option Addr) (ca cb : Nat) (xs ys : List Nat) (w : World) (h : Row w a ca xs) (k : Row w b cb ys) (tx : Trim xs) (ty : Trim ys) (lx : xs.length ≤ 100) (ly : ys.length ≤ 100) :
    Calls Try.prog 41 #[.agg #[.bool s, .slice a xs.length ca], .agg #[.bool t, .slice b ys.length cb]] w fun e w' =>
      (∃ u c cc rs, e = .returned (.agg #[.bool u, .slice c rs.length cc]) ∧ Row w' c cc rs ∧ sgn u (val rs) = sgn s (val xs) + sgn t (val ys) ∧ Trim rs ∧ rs.length ≤ xs.length + ys.length + 1 ∧ Fresh w.heap.size c) ∧ Below w.heap.size w w' := by
  cases s <;> cases t
  · exact refPlusSameF a b ca cb xs ys w h k lx ly
  · exact refPlusDiffF a b ca cb xs ys w h k tx ty lx ly
  · exact refPlusDiffT a b ca cb xs ys w h k tx ty lx ly
  · exact refPlusSameT a b ca cb xs ys w h k lx ly
end Go.Proofs.Ytfgbkmcbpmmfdaa
