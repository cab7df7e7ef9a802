/- Layer 1's own answers (embrasureref01): Product. -/
import Derived.Test.YtfgbkmcbpmmfdaaRefE
import Derived.Test.YtfgbkmcbpmmfdaaFixC
namespace Go.Proofs.Ytfgbkmcbpmmfdaa
open Go.RowKit
set_option linter.unusedVariables false
attribute [local go_sem ↓] Go.wp_at_zero Go.wp_at_succ

/-- What a cell holds (a name that the walk does not open). -/
def rdv (w : World) (b o : Nat) : Value := (w.cell? ⟨b, o, none⟩).getD undef
theorem rdv_of {w : World} {b o : Nat} {v : Value} (h : w.cell? ⟨b, o, none⟩ = some v) : w.cell? ⟨b, o, none⟩ = some (rdv w b o) := by unfold rdv; rw [h]; rfl
/-- Two boxes that are read, and one that is written. -/
def BoxS (w : World) (s t : Bool) (x y : Value) (W : World) : Prop :=
  w.heap.size + 1 + 1 < W.heap.size ∧ W.cell? ⟨w.heap.size, 0, none⟩ = some (.bool s) ∧ W.cell? ⟨w.heap.size, 1, none⟩ = some x ∧ W.cell? ⟨w.heap.size + 1, 0, none⟩ = some (.bool t) ∧ W.cell? ⟨w.heap.size + 1, 1, none⟩ = some y ∧
  W.cell? ⟨w.heap.size + 1 + 1, 0, none⟩ = some (rdv W (w.heap.size + 1 + 1) 0) ∧ W.cell? ⟨w.heap.size + 1 + 1, 1, none⟩ = some (rdv W (w.heap.size + 1 + 1) 1) ∧ W.frozen? ⟨w.heap.size + 1 + 1, 0, none⟩ = false ∧ W.frozen? ⟨w.heap.size + 1 + 1, 1, none⟩ = false ∧ Below w.heap.size w W
theorem BoxS.start (w : World) (s t : Bool) (x y z0 z1 : Value) (T : TypeId) : BoxS w s t x y (((w.alloc (.cells #[.bool s, x] T)).alloc (.cells #[.bool t, y] T)).alloc (.cells #[z0, z1] T)).drew :=
  ⟨by simp, by simp [go_sem], by simp [go_sem], by simp [go_sem], by simp [go_sem], rdv_of (v := z0) (by simp [go_sem]), rdv_of (v := z1) (by simp [go_sem]), by simp [go_sem], by simp [go_sem], ((((Below.refl _ _).alloc (Nat.le_refl _) _).alloc (by simp) _).alloc (by simp; omega) _).drew⟩
theorem BoxS.keep {w W W1 : World} {s t : Bool} {x y : Value} (hb : Below W.heap.size W W1) (h : BoxS w s t x y W) : BoxS w s t x y W1 := by
  obtain ⟨h0, h1, h2, h3, h4, h5, h6, h7, h8, h9⟩ := h
  have kc : ∀ {b o v}, b < W.heap.size → W.cell? ⟨b, o, none⟩ = some v → W1.cell? ⟨b, o, none⟩ = some v := fun hb' h => (hb.cell (p := ⟨_, _, none⟩) hb').trans h
  have kf : ∀ {b o v}, b < W.heap.size → W.frozen? ⟨b, o, none⟩ = v → W1.frozen? ⟨b, o, none⟩ = v := fun hb' h => (hb.frozen (p := ⟨_, _, none⟩) hb').trans h
  exact ⟨Nat.lt_of_lt_of_le h0 hb.size, kc (by omega) h1, kc (by omega) h2, kc (by omega) h3, kc (by omega) h4, rdv_of (kc (by omega) h5), rdv_of (kc (by omega) h6), kf (by omega) h7, kf (by omega) h8, h9.trans (hb.mono (by omega))⟩
theorem BoxS.set {w W : World} {s t : Bool} {x y : Value} (h : BoxS w s t x y W) (p q : Value) : BoxS w s t x y ((W.setCell ⟨w.heap.size + 1 + 1, 0, none⟩ p).setCell ⟨w.heap.size + 1 + 1, 1, none⟩ q) := by
  obtain ⟨h0, h1, h2, h3, h4, h5, h6, h7, h8, h9⟩ := h
  have ko : ∀ {b o v}, b ≠ w.heap.size + 1 + 1 → W.cell? ⟨b, o, none⟩ = some v → ((W.setCell ⟨w.heap.size + 1 + 1, 0, none⟩ p).setCell ⟨w.heap.size + 1 + 1, 1, none⟩ q).cell? ⟨b, o, none⟩ = some v := by
    intro b o v hb hv
    rw [World.cell?_setCell_other _ _ _ _ (fun e => hb (by cases e; rfl)), World.cell?_setCell_other _ _ _ _ (fun e => hb (by cases e; rfl))]; exact hv
  obtain ⟨t0, t1⟩ := two_newD (x := p) (y := q) h5 h6
  exact ⟨by simpa [World.setCell] using h0, ko (by omega) h1, ko (by omega) h2, ko (by omega) h3, ko (by omega) h4, rdv_of t0, rdv_of t1, by rw [World.frozen?_setCell, World.frozen?_setCell]; exact h7, by rw [World.frozen?_setCell, World.frozen?_setCell]; exact h8, (h9.setCell (by simp; omega) _).setCell (by simp; omega) _⟩

theorem two_back {W : World} {b : Nat} {x y u0 u1 : Value} (h0 : ((W.setCell ⟨b, 0, none⟩ x).setCell ⟨b, 1, none⟩ y).cell? ⟨b, 0, none⟩ = some u0) (h1 : ((W.setCell ⟨b, 0, none⟩ x).setCell ⟨b, 1, none⟩ y).cell? ⟨b, 1, none⟩ = some u1) :
    ((W.setCell ⟨b, 0, none⟩ x).setCell ⟨b, 1, none⟩ y).cell? ⟨b, 0, none⟩ = some x ∧ ((W.setCell ⟨b, 0, none⟩ x).setCell ⟨b, 1, none⟩ y).cell? ⟨b, 1, none⟩ = some y := by
  obtain ⟨_, k0⟩ := set_back h0
  obtain ⟨_, k0⟩ := set_back k0
  obtain ⟨_, k1⟩ := set_back h1
  obtain ⟨_, k1⟩ := set_back k1
  exact two_newD k0 k1
set_option maxHeartbeats 4000000 in
theorem refProduct (s t : Bool) (a b : Option Addr) (ca cb : Nat) (xs ys : List Nat) (w : World) (h : Row w a ca xs) (k : Row w b cb ys) (lx : xs.length ≤ 100) (ly : ys.length ≤ 100) :
    Calls Try.prog 49 #[.agg #[.bool s, .slice a xs.length ca], .agg #[.bool t, .slice b ys.length cb]] w fun e w' =>
      (∃ c cc rs, e = .returned (.agg #[.bool (s != t), .slice c rs.length cc]) ∧ Row w' c cc rs ∧ val rs = val xs * val ys ∧ Trim rs ∧ rs.length ≤ xs.length + ys.length + 1 ∧ Fresh w.heap.size c) ∧ Below w.heap.size w w' := by
  have hst := BoxS.start w s t (.slice a xs.length ca) (.slice b ys.length cb) (.bool false) (.slice none 0 0) 43
  go_enter Try.func49, Try.ntmps49
  go_wp2
  unfold BoxS at hst
  go_region_held3 (fun W => w.heap.size + 1 + 1 < W.heap.size ∧ W.cell? ⟨w.heap.size, 0, none⟩ = some (.bool s) ∧ W.cell? ⟨w.heap.size, 1, none⟩ = some (.slice a xs.length ca) ∧ W.cell? ⟨w.heap.size + 1, 0, none⟩ = some (.bool t) ∧ W.cell? ⟨w.heap.size + 1, 1, none⟩ = some (.slice b ys.length cb) ∧
      W.cell? ⟨w.heap.size + 1 + 1, 0, none⟩ = some (rdv W (w.heap.size + 1 + 1) 0) ∧ W.cell? ⟨w.heap.size + 1 + 1, 1, none⟩ = some (rdv W (w.heap.size + 1 + 1) 1) ∧ W.frozen? ⟨w.heap.size + 1 + 1, 0, none⟩ = false ∧ W.frozen? ⟨w.heap.size + 1 + 1, 1, none⟩ = false ∧ Below w.heap.size w W)
    (first | assumption | exact BoxS.keep (by assumption) (by assumption) | exact BoxS.set (by assumption) _ _)
    ((go_at_call 69; refine (refTimes a b ca cb xs ys _ (h.keep (by go_split_ands; assumption)) (k.keep (by go_split_ands; assumption)) lx ly).mono ?_; rintro e w1 ⟨⟨c, cc, rs, rfl, hrow, hv, ht, hl, hfr⟩, bel1⟩))
  rename_i hH
  obtain ⟨t0, t1⟩ := two_back hH.2.2.2.2.2.1 hH.2.2.2.2.2.2.1
  have hB := hH.2.2.2.2.2.2.2.2.2
  have hz := hst.1
  have hrow2 := (hrow.store hfr (p := ⟨w.heap.size + 1 + 1, 0, none⟩) hz (.bool (s != t))).store hfr (p := ⟨w.heap.size + 1 + 1, 1, none⟩) hz (.slice c rs.length cc)
  have hfr2 : Fresh w.heap.size c := fun x hx => by have := hfr x hx; omega
  clear hH hst hfr
  go_wp2
  refine bodyPost_ret (v := .agg #[.bool (s != t), .slice c rs.length cc]) ?_ rfl ⟨⟨c, cc, rs, rfl, hrow2, hv, ht, hl, hfr2⟩, hB⟩
  simp [results, Try.results49, go_sem, t0, t1]
  cases s <;> cases t <;> rfl
end Go.Proofs.Ytfgbkmcbpmmfdaa
