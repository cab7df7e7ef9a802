/- Layer 1's own answers (embrasureref01): numbers with their value; Dot, Long. -/
import Derived.Test.YtfgbkmcbpmmfdaaRefK
import Derived.Test.YtfgbkmcbpmmfdaaFixH
import Derived.Deep.DeepCutAuto
namespace Go.Proofs.Ytfgbkmcbpmmfdaa
open Go.RowKit
set_option linter.unusedVariables false
attribute [local go_sem ↓] Go.wp_at_zero Go.wp_at_succ

/-- A sign and a row that say n, of at most L digits. -/
structure BigIs (W : World) (n : Int) (L : Nat) (s : Bool) (c : Option Addr) (k : Nat) (rs : List Nat) : Prop where
  row : Row W c k rs
  v : sgn s (val rs) = n
  t : Trim rs
  l : rs.length ≤ L
theorem BigIs.keep {W W1 : World} {n : Int} {L : Nat} {s : Bool} {c : Option Addr} {k : Nat} {rs : List Nat} (h : BigIs W n L s c k rs) (hb : Below W.heap.size W W1) : BigIs W1 n L s c k rs := ⟨h.row.keep hb, h.v, h.t, h.l⟩
theorem bOf (n : Int) (hn : I64 n) (w : World) :
    Calls Try.prog 42 #[.int .i64 n] w fun e w' => (∃ s c k rs, e = .returned (.agg #[.bool s, .slice c rs.length k]) ∧ BigIs w' n 4 s c k rs) ∧ Below w.heap.size w w' :=
  (refOf n hn w).mono fun e w' ⟨⟨c, cc, rs, he, hr, hv, _, ht, hl, _⟩, hb⟩ => ⟨⟨_, c, cc, rs, he, hr, hv, ht, hl⟩, hb⟩
theorem sgn_mul (s t : Bool) (x y : Nat) : sgn (s != t) (x * y) = sgn s x * sgn t y := by
  cases s <;> cases t <;> simp [sgn, Int.neg_mul, Int.mul_neg]
theorem bProduct {n m : Int} {L M : Nat} {s t : Bool} {a b : Option Addr} {ca cb : Nat} {xs ys : List Nat} {w : World} (h : BigIs w n L s a ca xs) (k : BigIs w m M t b cb ys) (hL : L ≤ 100) (hM : M ≤ 100) :
    Calls Try.prog 49 #[.agg #[.bool s, .slice a xs.length ca], .agg #[.bool t, .slice b ys.length cb]] w fun e w' => (∃ u c k rs, e = .returned (.agg #[.bool u, .slice c rs.length k]) ∧ BigIs w' (n * m) (L + M + 1) u c k rs ∧ Fresh w.heap.size c) ∧ Below w.heap.size w w' := by
  have hl := h.l; have kl := k.l
  refine (refProduct s t a b ca cb xs ys w h.row k.row (by omega) (by omega)).mono ?_
  rintro e w' ⟨⟨c, cc, rs, rfl, hr, hv, ht, hl', hf⟩, hb⟩
  exact ⟨⟨_, c, cc, rs, rfl, ⟨hr, by rw [hv, sgn_mul, h.v, k.v], ht, by omega⟩, hf⟩, hb⟩
theorem bPlus {n m : Int} {L M : Nat} {s t : Bool} {a b : Option Addr} {ca cb : Nat} {xs ys : List Nat} {w : World} (h : BigIs w n L s a ca xs) (k : BigIs w m M t b cb ys) (hL : L ≤ 100) (hM : M ≤ 100) :
    Calls Try.prog 41 #[.agg #[.bool s, .slice a xs.length ca], .agg #[.bool t, .slice b ys.length cb]] w fun e w' => (∃ u c k rs, e = .returned (.agg #[.bool u, .slice c rs.length k]) ∧ BigIs w' (n + m) (L + M + 1) u c k rs ∧ Fresh w.heap.size c) ∧ Below w.heap.size w w' := by
  have hl := h.l; have kl := k.l
  refine (refPlus s t a b ca cb xs ys w h.row k.row h.t k.t (by omega) (by omega)).mono ?_
  rintro e w' ⟨⟨u, c, cc, rs, rfl, hr, hv, ht, hl', hf⟩, hb⟩
  exact ⟨⟨u, c, cc, rs, rfl, ⟨hr, by rw [hv, h.v, k.v], ht, by omega⟩, hf⟩, hb⟩
/-- Two vectors in their boxes. -/
def VS (B : World) (p q : Nat) (a1 a2 a3 b1 b2 b3 : Int) (W : World) : Prop :=
  W.cell? ⟨p, 0, none⟩ = some (.int .i64 a1) ∧ W.cell? ⟨p, 1, none⟩ = some (.int .i64 a2) ∧ W.cell? ⟨p, 2, none⟩ = some (.int .i64 a3) ∧ W.cell? ⟨q, 0, none⟩ = some (.int .i64 b1) ∧ W.cell? ⟨q, 1, none⟩ = some (.int .i64 b2) ∧ W.cell? ⟨q, 2, none⟩ = some (.int .i64 b3) ∧ Below B.heap.size B W
theorem VS.keep {B W W1 : World} {p q : Nat} {a1 a2 a3 b1 b2 b3 : Int} (hp : p < B.heap.size) (hq : q < B.heap.size) (hb : Below W.heap.size W W1) (h : VS B p q a1 a2 a3 b1 b2 b3 W) : VS B p q a1 a2 a3 b1 b2 b3 W1 := by
  obtain ⟨h1, h2, h3, h4, h5, h6, h7⟩ := h
  have hs := h7.size
  exact ⟨keepCell hb (by omega) h1, keepCell hb (by omega) h2, keepCell hb (by omega) h3, keepCell hb (by omega) h4, keepCell hb (by omega) h5, keepCell hb (by omega) h6, h7.trans (hb.mono (by omega))⟩
/-- From another world on. -/
theorem VS.anew {B W W1 : World} {p q : Nat} {a1 a2 a3 b1 b2 b3 : Int} (hp : p < B.heap.size) (hq : q < B.heap.size) (h : VS B p q a1 a2 a3 b1 b2 b3 W) (hb : Below W.heap.size W W1) : VS W1 p q a1 a2 a3 b1 b2 b3 W1.drew := by
  have h' := h.keep hp hq hb
  obtain ⟨h1, h2, h3, h4, h5, h6, h7⟩ := h'
  exact ⟨h1, h2, h3, h4, h5, h6, (Below.refl _ _).drew⟩
theorem VS.start (w : World) (a1 a2 a3 b1 b2 b3 : Int) (T : TypeId) : VS ((w.alloc (.cells #[.int .i64 a1, .int .i64 a2, .int .i64 a3] T)).alloc (.cells #[.int .i64 b1, .int .i64 b2, .int .i64 b3] T)) w.heap.size (w.heap.size + 1) a1 a2 a3 b1 b2 b3 ((w.alloc (.cells #[.int .i64 a1, .int .i64 a2, .int .i64 a3] T)).alloc (.cells #[.int .i64 b1, .int .i64 b2, .int .i64 b3] T)).drew :=
  ⟨by simp [go_sem], by simp [go_sem], by simp [go_sem], by simp [go_sem], by simp [go_sem], by simp [go_sem], (Below.refl _ _).drew⟩

theorem VS.alloc {B W : World} {p q : Nat} {a1 a2 a3 b1 b2 b3 : Int} (hp : p < B.heap.size) (hq : q < B.heap.size) (h : VS B p q a1 a2 a3 b1 b2 b3 W) (o : Obj) : VS B p q a1 a2 a3 b1 b2 b3 (W.alloc o) := h.keep hp hq ((Below.refl _ _).alloc (Nat.le_refl _) _)
/-- A box of a number that was laid behind B. -/
def NB (B W : World) (b : Nat) : Prop :=
  B.heap.size ≤ b ∧ b < W.heap.size ∧ W.cell? ⟨b, 0, none⟩ = some (rdv W b 0) ∧ W.cell? ⟨b, 1, none⟩ = some (rdv W b 1) ∧ W.frozen? ⟨b, 0, none⟩ = false ∧ W.frozen? ⟨b, 1, none⟩ = false
theorem NB.of {B W w2 : World} {x y : Value} {T : TypeId} (hb : Below (W.alloc (.cells #[x, y] T)).heap.size (W.alloc (.cells #[x, y] T)) w2) (hB : B.heap.size ≤ W.heap.size) : NB B w2 W.heap.size :=
  ⟨hB, Nat.lt_of_lt_of_le (by simp) hb.size, rdv_of (keepCell hb (x := x) (by simp) (by simp [go_sem])), rdv_of (keepCell hb (x := y) (by simp) (by simp [go_sem])), keepFrozen hb (by simp) (by simp [go_sem]), keepFrozen hb (by simp) (by simp [go_sem])⟩
theorem NB.of0 {B w2 : World} {x y : Value} {T : TypeId} (hb : Below (B.drew.alloc (.cells #[x, y] T)).heap.size (B.drew.alloc (.cells #[x, y] T)) w2) : NB B w2 B.heap.size := by exact NB.of (W := B.drew) hb (Nat.le_refl _)
theorem NB.keep {B W W1 : World} {b : Nat} (hb : Below W.heap.size W W1) (h : NB B W b) : NB B W1 b := by
  obtain ⟨h0, h1, h2, h3, h4, h5⟩ := h
  exact ⟨h0, Nat.lt_of_lt_of_le h1 hb.size, rdv_of (keepCell hb h1 h2), rdv_of (keepCell hb h1 h3), keepFrozen hb h1 h4, keepFrozen hb h1 h5⟩
theorem VS.set {B W : World} {p q b : Nat} {a1 a2 a3 b1 b2 b3 : Int} (hp : p < B.heap.size) (hq : q < B.heap.size) (h : VS B p q a1 a2 a3 b1 b2 b3 W) (hn : B.heap.size ≤ b) (x y : Value) : VS B p q a1 a2 a3 b1 b2 b3 ((W.setCell ⟨b, 0, none⟩ x).setCell ⟨b, 1, none⟩ y) := by
  obtain ⟨h1, h2, h3, h4, h5, h6, h7⟩ := h
  exact ⟨old_set (old_set h1 (by omega)) (by omega), old_set (old_set h2 (by omega)) (by omega), old_set (old_set h3 (by omega)) (by omega), old_set (old_set h4 (by omega)) (by omega), old_set (old_set h5 (by omega)) (by omega), old_set (old_set h6 (by omega)) (by omega), (h7.setCell hn _).setCell hn _⟩
/-- A box that holds a number. -/
def PB (W : World) (b : Nat) (n : Int) (L : Nat) : Prop :=
  b < W.heap.size ∧ ∃ u c k zs, W.cell? ⟨b, 0, none⟩ = some (.bool u) ∧ W.cell? ⟨b, 1, none⟩ = some (.slice c zs.length k) ∧ BigIs W n L u c k zs
theorem PB.keep {W W1 : World} {b : Nat} {n : Int} {L : Nat} (h : PB W b n L) (hb : Below W.heap.size W W1) : PB W1 b n L := by
  obtain ⟨h0, u, c, k, zs, h1, h2, h3⟩ := h
  exact ⟨Nat.lt_of_lt_of_le h0 hb.size, u, c, k, zs, keepCell hb h0 h1, keepCell hb h0 h2, h3.keep hb⟩
theorem PB.new {W : World} {n : Int} {L : Nat} {u : Bool} {c : Option Addr} {k : Nat} {zs : List Nat} (h : BigIs W n L u c k zs) (T : TypeId) : PB (W.alloc (.cells #[.bool u, .slice c zs.length k] T)) W.heap.size n L :=
  ⟨by simp, u, c, k, zs, by simp [go_sem], by simp [go_sem], h.keep ((Below.refl _ _).alloc (Nat.le_refl _) _)⟩
theorem PB.set {B W : World} {b F : Nat} {n : Int} {L : Nat} {u : Bool} {c : Option Addr} {k : Nat} {zs : List Nat} (hn : NB B W b) (h : BigIs W n L u c k zs) (hf : Fresh F c) (hb : b < F) : PB ((W.setCell ⟨b, 0, none⟩ (.bool u)).setCell ⟨b, 1, none⟩ (.slice c zs.length k)) b n L := by
  obtain ⟨h0, h1, h2, h3, h4, h5⟩ := hn
  obtain ⟨t0, t1⟩ := two_newD (x := .bool u) (y := .slice c zs.length k) h2 h3
  exact ⟨by simpa [World.setCell] using h1, u, c, k, zs, t0, t1, (h.row.store hf (p := ⟨b, 0, none⟩) hb _).store hf (p := ⟨b, 1, none⟩) hb _, h.v, h.t, h.l⟩
theorem size_drew {B w2 : World} {n : Nat} (h : Below n B.drew w2) : B.heap.size ≤ w2.heap.size := h.size

/-- Three boxes that are read. -/
def TS (B : World) (x y z : Nat) (u1 u2 u3 : Bool) (v1 v2 v3 : Value) (W : World) : Prop :=
  W.cell? ⟨x, 0, none⟩ = some (.bool u1) ∧ W.cell? ⟨x, 1, none⟩ = some v1 ∧ W.cell? ⟨y, 0, none⟩ = some (.bool u2) ∧ W.cell? ⟨y, 1, none⟩ = some v2 ∧ W.cell? ⟨z, 0, none⟩ = some (.bool u3) ∧ W.cell? ⟨z, 1, none⟩ = some v3 ∧ Below B.heap.size B W
theorem TS.keep {B W W1 : World} {x y z : Nat} {u1 u2 u3 : Bool} {v1 v2 v3 : Value} (hx : x < B.heap.size) (hy : y < B.heap.size) (hz : z < B.heap.size) (hb : Below W.heap.size W W1) (h : TS B x y z u1 u2 u3 v1 v2 v3 W) : TS B x y z u1 u2 u3 v1 v2 v3 W1 := by
  obtain ⟨h1, h2, h3, h4, h5, h6, h7⟩ := h
  have hs := h7.size
  exact ⟨keepCell hb (by omega) h1, keepCell hb (by omega) h2, keepCell hb (by omega) h3, keepCell hb (by omega) h4, keepCell hb (by omega) h5, keepCell hb (by omega) h6, h7.trans (hb.mono (by omega))⟩
theorem dp_dn (x y : Int) : dp x y - dn x y = x * y := by
  unfold dp dn apartB mag
  by_cases h1 : x < 0 <;> by_cases h2 : y < 0
  all_goals simp [h1, h2, Int.neg_mul, Int.mul_neg]
theorem dot_fin {a1 a2 a3 b1 b2 b3 R : Int} {u : Bool} {zs us : List Nat} (hR : fdot a1 a2 a3 b1 b2 b3 = R) (hv : sgn u (val zs) = a1 * b1 + a2 * b2 + a3 * b3) (hus : val us = val zs / 65536) : numb ((val us : Nat) : Int) u = R := by
  have e1 := dp_dn a1 b1; have e2 := dp_dn a2 b2; have e3 := dp_dn a3 b3
  unfold fdot at hR
  have e : dpS a1 a2 a3 b1 b2 b3 - dnS a1 a2 a3 b1 b2 b3 = a1 * b1 + a2 * b2 + a3 * b3 := by unfold dpS dnS; omega
  rw [← e] at hv
  generalize dpS a1 a2 a3 b1 b2 b3 = P at *
  generalize dnS a1 a2 a3 b1 b2 b3 = N at *
  rw [hus]
  clear e e1 e2 e3 hus
  generalize val zs = Z at *
  rw [← hR, Int.natCast_ediv]
  by_cases h : P < N
  · rw [if_pos h]
    cases u
    · simp [sgn] at hv; omega
    · simp [sgn] at hv; rw [show N - P = (Z : Int) from by omega]; rfl
  · rw [if_neg h]
    cases u
    · simp [sgn] at hv; rw [show P - N = (Z : Int) from by omega]; rfl
    · simp [sgn] at hv
      have : Z = 0 := by omega
      subst this
      rw [show P - N = 0 from by omega]; rfl
set_option maxHeartbeats 4000000 in
theorem refDot (a1 a2 a3 b1 b2 b3 : Int) (ha1 : I64 a1) (ha2 : I64 a2) (ha3 : I64 a3) (hb1 : I64 b1) (hb2 : I64 b2) (hb3 : I64 b3) (w : World) :
    Calls Try.prog 35 #[.agg #[.int .i64 a1, .int .i64 a2, .int .i64 a3], .agg #[.int .i64 b1, .int .i64 b2, .int .i64 b3]] w fun e w' => e = .returned (.int .i64 (fdot a1 a2 a3 b1 b2 b3)) ∧ Below w.heap.size w w' := by
  obtain ⟨R, hR⟩ : ∃ R, fdot a1 a2 a3 b1 b2 b3 = R := ⟨_, rfl⟩
  have HR : Hid _ := hR
  rw [hR]
  clear hR
  have hst := VS.start w a1 a2 a3 b1 b2 b3 27
  have hBW : Below w.heap.size w ((w.alloc (.cells #[.int .i64 a1, .int .i64 a2, .int .i64 a3] 27)).alloc (.cells #[.int .i64 b1, .int .i64 b2, .int .i64 b3] 27)) := ((Below.refl _ _).alloc (Nat.le_refl _) _).alloc (by simp) _
  have hp : w.heap.size < ((w.alloc (.cells #[.int .i64 a1, .int .i64 a2, .int .i64 a3] 27)).alloc (.cells #[.int .i64 b1, .int .i64 b2, .int .i64 b3] 27)).heap.size := by simp; omega
  have hq : w.heap.size + 1 < ((w.alloc (.cells #[.int .i64 a1, .int .i64 a2, .int .i64 a3] 27)).alloc (.cells #[.int .i64 b1, .int .i64 b2, .int .i64 b3] 27)).heap.size := by simp
  go_enter Try.func35, Try.ntmps35
  generalize hBe : (w.alloc (.cells #[.int .i64 a1, .int .i64 a2, .int .i64 a3] 27)).alloc (.cells #[.int .i64 b1, .int .i64 b2, .int .i64 b3] 27) = B at *
  have HBE : Hid _ := hBe
  clear hBe
  go_upto_region 1 with fail
  rw [HBE.out]
  go_cut [5] (fun x W => ∃ b, x = .pointer (some ⟨b, 0, none⟩) ∧ PB W b (a1 * b1) 9 ∧ VS B w.heap.size (w.heap.size + 1) a1 a2 a3 b1 b2 b3 W)
  case first =>
    unfold VS at hst
    go_region_held3 (fun W => W.cell? ⟨w.heap.size, 0, none⟩ = some (.int .i64 a1) ∧ W.cell? ⟨w.heap.size, 1, none⟩ = some (.int .i64 a2) ∧ W.cell? ⟨w.heap.size, 2, none⟩ = some (.int .i64 a3) ∧ W.cell? ⟨w.heap.size + 1, 0, none⟩ = some (.int .i64 b1) ∧ W.cell? ⟨w.heap.size + 1, 1, none⟩ = some (.int .i64 b2) ∧ W.cell? ⟨w.heap.size + 1, 2, none⟩ = some (.int .i64 b3) ∧ Below B.heap.size B W)
      (first | assumption | exact VS.keep hp hq (by assumption) (by assumption) | exact VS.alloc hp hq (by assumption) _ | exact VS.set hp hq (by assumption) (by assumption) _ _)
      (first
        | (go_at_call 42; refine (bOf _ (by assumption) _).mono ?_; rintro e w2 ⟨⟨s, c, k, xs, rfl, hx⟩, bl⟩; first | have nb := NB.of0 bl | have nb := NB.of (B := B) bl (size_drew (by assumption)) | have nb := NB.keep bl nb | skip)
        | (go_at_call 49; refine (bProduct (by first | assumption | exact BigIs.keep (by assumption) (by assumption) | exact BigIs.keep (BigIs.keep (by assumption) ((Below.refl _ _).alloc (Nat.le_refl _) _)) (by assumption) | exact BigIs.keep (BigIs.keep (by assumption) (by assumption)) ((Below.refl _ _).alloc (Nat.le_refl _) _)) (by first | assumption | exact BigIs.keep (by assumption) ((Below.refl _ _).alloc (Nat.le_refl _) _)) (by decide) (by decide)).mono ?_; rintro e w3 ⟨⟨u, c3, k3, zs, rfl, hz, hf⟩, bl3⟩; have hS3 := VS.keep hp hq bl3 (by assumption); first | (have nb3 := NB.of (B := B) bl3 (Nat.le_trans (size_drew (by assumption)) (Below.size (by assumption))); obtain ⟨n0, n1, n2, n3, n4, n5⟩ := id nb3) | (have nb3 := NB.keep bl3 nb; obtain ⟨n0, n1, n2, n3, n4, n5⟩ := id nb3) | skip))
    all_goals
      rename_i hH
      go_wp2
      go_meet
      case rel => first | exact ⟨_, rfl, PB.new hz _, hH⟩ | exact ⟨_, rfl, PB.set nb3 hz hf nb.2.1, hH⟩ | exact ⟨_, rfl, PB.set nb3 hz hf (by simp), hH⟩
  case rest =>
    obtain ⟨x, rfl, px, hv1⟩ := hcut
    have B1 := hv1.2.2.2.2.2.2
    have hst1 := hv1.anew hp hq (Below.refl _ _)
    have hp1 := Nat.lt_of_lt_of_le hp B1.size
    have hq1 := Nat.lt_of_lt_of_le hq B1.size
    have BW1 := btrans hBW B1
    clear hv1 hst hp hq hBW B1 HBE
    obtain ⟨W1, hWW1⟩ : ∃ W, W = wc := ⟨_, rfl⟩
    subst hWW1
    go_upto_region 2 with fail
    go_cut [6] (fun x W => ∃ b, x = .pointer (some ⟨b, 0, none⟩) ∧ PB W b (a2 * b2) 9 ∧ VS W1 w.heap.size (w.heap.size + 1) a1 a2 a3 b1 b2 b3 W)
    case first =>
      unfold VS at hst1
      go_region_held3 (fun W => W.cell? ⟨w.heap.size, 0, none⟩ = some (.int .i64 a1) ∧ W.cell? ⟨w.heap.size, 1, none⟩ = some (.int .i64 a2) ∧ W.cell? ⟨w.heap.size, 2, none⟩ = some (.int .i64 a3) ∧ W.cell? ⟨w.heap.size + 1, 0, none⟩ = some (.int .i64 b1) ∧ W.cell? ⟨w.heap.size + 1, 1, none⟩ = some (.int .i64 b2) ∧ W.cell? ⟨w.heap.size + 1, 2, none⟩ = some (.int .i64 b3) ∧ Below W1.heap.size W1 W)
        (first | assumption | exact VS.keep hp1 hq1 (by assumption) (by assumption) | exact VS.alloc hp1 hq1 (by assumption) _ | exact VS.set hp1 hq1 (by assumption) (by assumption) _ _)
        (first
          | (go_at_call 42; refine (bOf _ (by assumption) _).mono ?_; rintro e w2 ⟨⟨s, c, k, xs, rfl, hx⟩, bl⟩; first | have nb := NB.of0 bl | have nb := NB.of (B := W1) bl (size_drew (by assumption)) | have nb := NB.keep bl nb | skip)
          | (go_at_call 49; refine (bProduct (by first | assumption | exact BigIs.keep (by assumption) (by assumption) | exact BigIs.keep (BigIs.keep (by assumption) ((Below.refl _ _).alloc (Nat.le_refl _) _)) (by assumption) | exact BigIs.keep (BigIs.keep (by assumption) (by assumption)) ((Below.refl _ _).alloc (Nat.le_refl _) _)) (by first | assumption | exact BigIs.keep (by assumption) ((Below.refl _ _).alloc (Nat.le_refl _) _)) (by decide) (by decide)).mono ?_; rintro e w3 ⟨⟨u, c3, k3, zs, rfl, hz, hf⟩, bl3⟩; have hS3 := VS.keep hp1 hq1 bl3 (by assumption); first | (have nb3 := NB.of (B := W1) bl3 (Nat.le_trans (size_drew (by assumption)) (Below.size (by assumption))); obtain ⟨n0, n1, n2, n3, n4, n5⟩ := id nb3) | (have nb3 := NB.keep bl3 nb; obtain ⟨n0, n1, n2, n3, n4, n5⟩ := id nb3) | skip))
      all_goals
        rename_i hH
        go_wp2
        go_meet
        case rel => first | exact ⟨_, rfl, PB.new hz _, hH⟩ | exact ⟨_, rfl, PB.set nb3 hz hf nb.2.1, hH⟩ | exact ⟨_, rfl, PB.set nb3 hz hf (by simp), hH⟩
    case rest =>
      obtain ⟨y, rfl, py, hv2⟩ := hcut
      have B2 := hv2.2.2.2.2.2.2
      have hst2 := hv2.anew hp1 hq1 (Below.refl _ _)
      have hp2 := Nat.lt_of_lt_of_le hp1 B2.size
      have hq2 := Nat.lt_of_lt_of_le hq1 B2.size
      have BW2 := btrans BW1 B2
      have px2 := px.keep B2
      clear hv2 hst1 hp1 hq1 BW1 B2 px
      obtain ⟨W2, hWW2⟩ : ∃ W, W = wc := ⟨_, rfl⟩
      subst hWW2
      go_upto_region 3 with fail
      go_cut [7] (fun x W => ∃ b, x = .pointer (some ⟨b, 0, none⟩) ∧ PB W b (a3 * b3) 9 ∧ VS W2 w.heap.size (w.heap.size + 1) a1 a2 a3 b1 b2 b3 W)
      case first =>
        unfold VS at hst2
        go_region_held3 (fun W => W.cell? ⟨w.heap.size, 0, none⟩ = some (.int .i64 a1) ∧ W.cell? ⟨w.heap.size, 1, none⟩ = some (.int .i64 a2) ∧ W.cell? ⟨w.heap.size, 2, none⟩ = some (.int .i64 a3) ∧ W.cell? ⟨w.heap.size + 1, 0, none⟩ = some (.int .i64 b1) ∧ W.cell? ⟨w.heap.size + 1, 1, none⟩ = some (.int .i64 b2) ∧ W.cell? ⟨w.heap.size + 1, 2, none⟩ = some (.int .i64 b3) ∧ Below W2.heap.size W2 W)
          (first | assumption | exact VS.keep hp2 hq2 (by assumption) (by assumption) | exact VS.alloc hp2 hq2 (by assumption) _ | exact VS.set hp2 hq2 (by assumption) (by assumption) _ _)
          (first
            | (go_at_call 42; refine (bOf _ (by assumption) _).mono ?_; rintro e w2 ⟨⟨s, c, k, xs, rfl, hx⟩, bl⟩; first | have nb := NB.of0 bl | have nb := NB.of (B := W2) bl (size_drew (by assumption)) | have nb := NB.keep bl nb | skip)
            | (go_at_call 49; refine (bProduct (by first | assumption | exact BigIs.keep (by assumption) (by assumption) | exact BigIs.keep (BigIs.keep (by assumption) ((Below.refl _ _).alloc (Nat.le_refl _) _)) (by assumption) | exact BigIs.keep (BigIs.keep (by assumption) (by assumption)) ((Below.refl _ _).alloc (Nat.le_refl _) _)) (by first | assumption | exact BigIs.keep (by assumption) ((Below.refl _ _).alloc (Nat.le_refl _) _)) (by decide) (by decide)).mono ?_; rintro e w3 ⟨⟨u, c3, k3, zs, rfl, hz, hf⟩, bl3⟩; have hS3 := VS.keep hp2 hq2 bl3 (by assumption); first | (have nb3 := NB.of (B := W2) bl3 (Nat.le_trans (size_drew (by assumption)) (Below.size (by assumption))); obtain ⟨n0, n1, n2, n3, n4, n5⟩ := id nb3) | (have nb3 := NB.keep bl3 nb; obtain ⟨n0, n1, n2, n3, n4, n5⟩ := id nb3) | skip))
        all_goals
          rename_i hH
          go_wp2
          go_meet
          case rel => first | exact ⟨_, rfl, PB.new hz _, hH⟩ | exact ⟨_, rfl, PB.set nb3 hz hf nb.2.1, hH⟩ | exact ⟨_, rfl, PB.set nb3 hz hf (by simp), hH⟩
      case rest =>
        obtain ⟨z, rfl, pz, hv3⟩ := hcut
        have B3 := hv3.2.2.2.2.2.2
        have BW3 := btrans BW2 B3
        obtain ⟨lx, u1, c1, k1, xs, x0, x1, gx⟩ := px2.keep B3
        obtain ⟨ly, u2, c2, k2, ys, y0, y1, gy⟩ := py.keep B3
        obtain ⟨lz, u3, c3, k3, zs, z0, z1, gz⟩ := pz
        clear hv3 hst2 hp2 hq2 BW2 B3 px2 py
        obtain ⟨W3, hWW3⟩ : ∃ W, W = wc := ⟨_, rfl⟩
        subst hWW3
        have hst3 : TS W3 x y z u1 u2 u3 (.slice c1 xs.length k1) (.slice c2 ys.length k2) (.slice c3 zs.length k3) W3.drew := ⟨x0, x1, y0, y1, z0, z1, (Below.refl _ _).drew⟩
        clear x0 x1 y0 y1 z0 z1
        go_upto_region 4 with fail
        unfold TS at hst3
        go_region_held3 (fun W => W.cell? ⟨x, 0, none⟩ = some (.bool u1) ∧ W.cell? ⟨x, 1, none⟩ = some (.slice c1 xs.length k1) ∧ W.cell? ⟨y, 0, none⟩ = some (.bool u2) ∧ W.cell? ⟨y, 1, none⟩ = some (.slice c2 ys.length k2) ∧ W.cell? ⟨z, 0, none⟩ = some (.bool u3) ∧ W.cell? ⟨z, 1, none⟩ = some (.slice c3 zs.length k3) ∧ Below W3.heap.size W3 W)
          (first | assumption | exact TS.keep lx ly lz (by assumption) (by assumption))
          (first
            | (go_at_call 41; refine (bPlus (by first | exact gx.keep (by go_split_ands; assumption) | assumption) (by first | exact gy.keep (by go_split_ands; assumption) | exact gz.keep (by go_split_ands; assumption)) (by decide) (by decide)).mono ?_; rintro e w5 ⟨⟨u, c, k, rs, rfl, hr, hf⟩, bl⟩)
            | (go_at_call 48; refine (refBehind _ _ _ _ _ hr.row).mono ?_; rintro e w6 ⟨⟨c4, k4, us, rfl, r4, v4⟩, bl6⟩; have V4 : Hid _ := v4; clear v4)
            | (go_at_call 40; refine (refInt _ _ _ _ _ r4).mono ?_; rintro e w7 ⟨rfl, bl7⟩))
        rename_i hH
        have hB := btrans BW3 hH.2.2.2.2.2.2
        have hfin := dot_fin HR.out hr.v V4.out
        rw [hfin]
        clear hfin hH hst3 gx gy gz
        go_wp2
        go_ret
        exact ⟨rfl, hB⟩
end Go.Proofs.Ytfgbkmcbpmmfdaa
