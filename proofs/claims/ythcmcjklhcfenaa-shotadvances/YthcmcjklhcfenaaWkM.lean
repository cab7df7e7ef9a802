/- Layer 11 (walk): how players move, as plain mathematics. No Go in this text. -/
import Derived.Test.YthcmcjklhcfenaaTrM
namespace Go.Proofs.Ythcmcjklhcfenaa
open Go.RowKit
set_option linter.unusedVariables false

/-- A player. -/
structure Pl where
  id : Int
  px : Int
  py : Int
  pz : Int
  vx : Int
  vy : Int
  vz : Int
  gr : Bool
  he : Int
  ar : Int
  sc : Int
  a0 : Int
  a1 : Int
  wa : Int
  de : Int
deriving DecidableEq
/-- What a player wants. -/
structure Cm where
  sq : Int
  bt : Int
  dx : Int
  dy : Int
  tk : Int
deriving DecidableEq
def wnt (d : Int) : Int := (d * 16384).tdiv 127
def prs (b k : Int) : Bool := !decide (b.toNat &&& k.toNat = 0)
def shr (p : Pl) (c : Cm) : Int := if p.gr && !prs c.bt 2 then 4 else 16
def ct (n : Int) : Int := max (-32768) (min n 32768)
def psh (v d s : Int) : Int := v + (wnt d - v).tdiv s
def lp (p : Pl) (c : Cm) : Int := if p.gr && prs c.bt 1 then 24576 else p.vz
def vlx (p : Pl) (c : Cm) : Int := ct (psh p.vx c.dx (shr p c))
def vly (p : Pl) (c : Cm) : Int := ct (psh p.vy c.dy (shr p c))
def vlz (p : Pl) (c : Cm) : Int := ct (lp p c - 1024)
def hlt (b : Bool) (a : Int) : Int := if b then 0 else a
def Pl.mvd (p : Pl) (x y z a b c : Int) (b1 b2 b3 : Bool) : Pl := { p with px := x, py := y, pz := z, vx := hlt b1 a, vy := hlt b2 b, vz := hlt b3 c, gr := b3 && decide (c < 0) }
def mvdR (R : Int → Int → Int → Bool) (p : Pl) (a b c : Int) : Pl :=
  p.mvd (mv (R (sat (p.px + a)) p.py p.pz) p.px a) (mv (R (mv (R (sat (p.px + a)) p.py p.pz) p.px a) (sat (p.py + b)) p.pz) p.py b) (mv (R (mv (R (sat (p.px + a)) p.py p.pz) p.px a) (mv (R (mv (R (sat (p.px + a)) p.py p.pz) p.px a) (sat (p.py + b)) p.pz) p.py b) (sat (p.pz + c))) p.pz c) a b c (bl (R (sat (p.px + a)) p.py p.pz) a) (bl (R (mv (R (sat (p.px + a)) p.py p.pz) p.px a) (sat (p.py + b)) p.pz) b) (bl (R (mv (R (sat (p.px + a)) p.py p.pz) p.px a) (mv (R (mv (R (sat (p.px + a)) p.py p.pz) p.px a) (sat (p.py + b)) p.pz) p.py b) (sat (p.pz + c))) c)
def tick (R : Int → Int → Int → Bool) (p : Pl) (c : Cm) : Pl := if p.de > 0 then p else mvdR R p (vlx p c) (vly p c) (vlz p c)
def stepN (R : Int → Int → Int → Bool) (c : Cm) : Nat → Pl → Pl
  | 0, p => p
  | n + 1, p => stepN R c n (tick R p c)
def step (R : Int → Int → Int → Bool) (p : Pl) (c : Cm) : Pl := if c.tk > 8 then p else stepN R c c.tk.toNat p

/-- A player whose numbers are of 64 bits, and who is free, and not too fast. -/
structure Pl.Wf (p : Pl) : Prop where
  x : I64 p.px
  y : I64 p.py
  z : I64 p.pz
  a : I64 p.vx
  b : I64 p.vy
  c : I64 p.vz
structure Pl.Slow (p : Pl) : Prop where
  a0 : -32768 ≤ p.vx
  a1 : p.vx ≤ 32768
  b0 : -32768 ≤ p.vy
  b1 : p.vy ≤ 32768
  c0 : -32768 ≤ p.vz
  c1 : p.vz ≤ 32768
structure Rt (R : Int → Int → Int → Bool) (p : Pl) : Prop where
  w : p.Wf
  f : R p.px p.py p.pz = true
  s : p.Slow
structure Cm.Wf (c : Cm) : Prop where
  b0 : 0 ≤ c.bt
  b1 : c.bt < 256
  x0 : -128 ≤ c.dx
  x1 : c.dx ≤ 127
  y0 : -128 ≤ c.dy
  y1 : c.dy ≤ 127
  t : I64 c.tk
theorem ct_near (n : Int) : -32768 ≤ ct n ∧ ct n ≤ 32768 := by unfold ct; omega
theorem ct_id {n : Int} (h0 : -32768 ≤ n) (h1 : n ≤ 32768) : ct n = n := by unfold ct; omega
theorem ct_iff {n : Int} : ct n = n ↔ -32768 ≤ n ∧ n ≤ 32768 := by unfold ct; omega
theorem cl_ct (n : Int) : fclamp (ct n) 32768 = ct n := cl_id (ct_near n).1 (ct_near n).2
theorem tdiv_pos' (a k : Int) (hk : 0 < k) : a.tdiv k = if 0 ≤ a then a / k else -((-a) / k) := by
  split
  · exact Int.tdiv_eq_ediv_of_nonneg (by assumption)
  · obtain ⟨m, hm⟩ : ∃ m, -a = m := ⟨_, rfl⟩
    have : a = -m := by omega
    rw [this, Int.neg_tdiv, Int.tdiv_eq_ediv_of_nonneg (by omega)]; simp
theorem wnt_near {d : Int} (h0 : -128 ≤ d) (h1 : d ≤ 127) : -16514 ≤ wnt d ∧ wnt d ≤ 16514 := by
  unfold wnt; rw [tdiv_pos' _ _ (by omega)]; split <;> omega
theorem wnt_0 : wnt 0 = 0 := by decide
theorem shr_is (p : Pl) (c : Cm) : shr p c = 4 ∨ shr p c = 16 := by unfold shr; split <;> simp
theorem psh_near {v d s : Int} (hs : s = 4 ∨ s = 16) (h0 : -128 ≤ d) (h1 : d ≤ 127) (v0 : -32768 ≤ v) (v1 : v ≤ 32768) : -65536 ≤ psh v d s ∧ psh v d s ≤ 65536 := by
  have := wnt_near h0 h1
  unfold psh
  rcases hs with rfl | rfl <;> (rw [tdiv_pos' _ _ (by omega)]; split <;> omega)
theorem lp_near {p : Pl} (h : p.Slow) (c : Cm) : -32768 ≤ lp p c ∧ lp p c ≤ 32768 := by
  obtain ⟨_, _, _, _, _, _⟩ := h
  unfold lp; split <;> omega
theorem slow_psh {v s : Int} (hs : s = 4 ∨ s = 16) (v0 : -32768 ≤ v) (v1 : v ≤ 32768) : (0 ≤ v → 0 ≤ ct (psh v 0 s) ∧ ct (psh v 0 s) ≤ v) ∧ (v ≤ 0 → ct (psh v 0 s) ≤ 0 ∧ v ≤ ct (psh v 0 s)) := by
  unfold psh ct
  rw [wnt_0]
  rcases hs with rfl | rfl <;> (rw [tdiv_pos' _ _ (by omega)]; split <;> omega)

theorem mvdR_slid (R : Int → Int → Int → Bool) (p : Pl) (a b c : Int) : ∃ x y z b1 b2 b3, Slid R p.px p.py p.pz a b c x y z b1 b2 b3 ∧ mvdR R p a b c = p.mvd x y z a b c b1 b2 b3 :=
  ⟨_, _, _, _, _, _, Slid.mk' _ _ _ _ _ _ _, rfl⟩
theorem mvdR_of {R : Int → Int → Int → Bool} {p : Pl} {a b c x y z : Int} {b1 b2 b3 : Bool} (h : Slid R p.px p.py p.pz a b c x y z b1 b2 b3) : mvdR R p a b c = p.mvd x y z a b c b1 b2 b3 := by
  obtain ⟨x', y', z', c1, c2, c3, h', e⟩ := mvdR_slid R p a b c
  obtain ⟨rfl, rfl, rfl, rfl, rfl, rfl⟩ := h.uniq h'
  exact e
theorem tick_dead {R : Int → Int → Int → Bool} {p : Pl} {c : Cm} (h : p.de > 0) : tick R p c = p := if_pos h
theorem tick_alive {R : Int → Int → Int → Bool} {p : Pl} {c : Cm} (h : ¬ p.de > 0) : tick R p c = mvdR R p (vlx p c) (vly p c) (vlz p c) := if_neg h
/-- All but where it is, and how fast, stays. -/
structure Same (p q : Pl) : Prop where
  id : q.id = p.id
  he : q.he = p.he
  ar : q.ar = p.ar
  sc : q.sc = p.sc
  a0 : q.a0 = p.a0
  a1 : q.a1 = p.a1
  wa : q.wa = p.wa
  de : q.de = p.de
theorem Same.refl (p : Pl) : Same p p := ⟨rfl, rfl, rfl, rfl, rfl, rfl, rfl, rfl⟩
theorem Same.trans {p q r : Pl} (h : Same p q) (k : Same q r) : Same p r := ⟨k.id.trans h.id, k.he.trans h.he, k.ar.trans h.ar, k.sc.trans h.sc, k.a0.trans h.a0, k.a1.trans h.a1, k.wa.trans h.wa, k.de.trans h.de⟩
theorem Same.with {p q : Pl} (h : Same p q) : { q with px := p.px, py := p.py, pz := p.pz, vx := p.vx, vy := p.vy, vz := p.vz, gr := p.gr } = p := by
  obtain ⟨h1, h2, h3, h4, h5, h6, h7, h8⟩ := h
  cases p; cases q; simp at *; simp [*]
theorem tick_same (R : Int → Int → Int → Bool) (p : Pl) (c : Cm) : Same p (tick R p c) := by
  unfold tick; split
  · exact Same.refl p
  · exact ⟨rfl, rfl, rfl, rfl, rfl, rfl, rfl, rfl⟩
theorem stepN_same (R : Int → Int → Int → Bool) (c : Cm) (n : Nat) (p : Pl) : Same p (stepN R c n p) := by
  induction n generalizing p with
  | zero => exact Same.refl p
  | succ n ih => exact (tick_same R p c).trans (ih _)
theorem step_same (R : Int → Int → Int → Bool) (p : Pl) (c : Cm) : Same p (step R p c) := by
  unfold step; split
  · exact Same.refl p
  · exact stepN_same R c _ p
theorem stepN_dead {R : Int → Int → Int → Bool} {p : Pl} (h : p.de > 0) (c : Cm) (n : Nat) : stepN R c n p = p := by
  induction n with
  | zero => rfl
  | succ n ih => unfold stepN; rw [tick_dead h]; exact ih
theorem step_dead {R : Int → Int → Int → Bool} {p : Pl} (h : p.de > 0) (c : Cm) : step R p c = p := by
  unfold step; split
  · rfl
  · exact stepN_dead h c _
theorem stepN_add (R : Int → Int → Int → Bool) (c : Cm) (m n : Nat) (p : Pl) : stepN R c (m + n) p = stepN R c n (stepN R c m p) := by
  induction m generalizing p with
  | zero => rw [Nat.zero_add]; rfl
  | succ m ih => rw [Nat.succ_add]; exact ih _
theorem stepN_succ (R : Int → Int → Int → Bool) (c : Cm) (n : Nat) (p : Pl) : stepN R c (n + 1) p = tick R (stepN R c n p) c := by
  rw [stepN_add]; rfl
theorem tick_like {R : Int → Int → Int → Bool} {p : Pl} {c d : Cm} (h1 : d.bt = c.bt) (h2 : d.dx = c.dx) (h3 : d.dy = c.dy) : tick R p d = tick R p c := by
  unfold tick vlx vly vlz shr lp; rw [h1, h2, h3]
theorem stepN_like {R : Int → Int → Int → Bool} {c d : Cm} (h1 : d.bt = c.bt) (h2 : d.dx = c.dx) (h3 : d.dy = c.dy) (n : Nat) (p : Pl) : stepN R d n p = stepN R c n p := by
  induction n generalizing p with
  | zero => rfl
  | succ n ih => unfold stepN; rw [tick_like h1 h2 h3]; exact ih _
/-- Two steps are one of both ticks. -/
theorem step_joins {R : Int → Int → Int → Bool} {p : Pl} {c d e : Cm} (h1 : d.bt = c.bt) (h2 : d.dx = c.dx) (h3 : d.dy = c.dy) (k1 : e.bt = c.bt) (k2 : e.dx = c.dx) (k3 : e.dy = c.dy)
    (hd : 1 ≤ d.tk ∧ d.tk ≤ 4) (he : 1 ≤ e.tk ∧ e.tk ≤ 4) (hc : c.tk = d.tk + e.tk) : step R p c = step R (step R p d) e := by
  unfold step
  rw [if_neg (show ¬ c.tk > 8 by omega), if_neg (show ¬ d.tk > 8 by omega), if_neg (show ¬ e.tk > 8 by omega), stepN_like h1 h2 h3, stepN_like k1 k2 k3, ← stepN_add]
  congr 1
  omega
theorem step_9 {R : Int → Int → Int → Bool} {p : Pl} {c : Cm} (h : c.tk > 8) : step R p c = p := if_pos h
theorem step_0 {R : Int → Int → Int → Bool} {p : Pl} {c : Cm} (h : c.tk < 1) : step R p c = p := by
  unfold step; rw [if_neg (by omega), show c.tk.toNat = 0 by omega]; rfl

/-- Who is right stays right; who is on the ground has not fallen; nobody goes farther than Most. -/
structure Went (R : Int → Int → Int → Bool) (p q : Pl) : Prop where
  rt : Rt R q
  fx : -32768 ≤ q.px - p.px ∧ q.px - p.px ≤ 32768
  fy : -32768 ≤ q.py - p.py ∧ q.py - p.py ≤ 32768
  fz : -32768 ≤ q.pz - p.pz ∧ q.pz - p.pz ≤ 32768
  g : ¬ p.de > 0 → q.gr = true → q.vz = 0 ∧ q.pz = p.pz
theorem hlt_near {b : Bool} {a : Int} (h : -32768 ≤ a ∧ a ≤ 32768) : -32768 ≤ hlt b a ∧ hlt b a ≤ 32768 := by unfold hlt; split <;> omega
theorem i64_near {a : Int} (h : -32768 ≤ a ∧ a ≤ 32768) : I64 a := ⟨by omega, by omega⟩
theorem tick_went {M : Mp} {R : Int → Int → Int → Bool} (hR : ∀ x y z, R x y z = true ↔ M.Room x y z) {p : Pl} (h : Rt R p) (c : Cm) : Went R p (tick R p c) := by
  by_cases hd : p.de > 0
  · rw [tick_dead hd]
    exact ⟨h, by omega, by omega, by omega, fun hn => absurd hd hn⟩
  · rw [tick_alive hd]
    obtain ⟨hw, hf, hs⟩ := h
    obtain ⟨ix, iy, iz, _, _, _⟩ := hw
    have na := ct_near (psh p.vx c.dx (shr p c)); have nb := ct_near (psh p.vy c.dy (shr p c)); have nc := ct_near (lp p c - 1024)
    obtain ⟨x, y, z, b1, b2, b3, hS, e⟩ := mvdR_slid R p (vlx p c) (vly p c) (vlz p c)
    rw [e]
    have hst := hS.stays hR ix iy iz na nb nc hf
    have hi := hS.i64 ix iy iz
    unfold vlx vly vlz at *
    obtain ⟨h0, h1, h2, h3⟩ := hst
    have e1 := hlt_near (b := b1) na; have e2 := hlt_near (b := b2) nb; have e3 := hlt_near (b := b3) nc
    refine ⟨⟨⟨hi.1, hi.2.1, hi.2.2, i64_near e1, i64_near e2, i64_near e3⟩, h0, ⟨e1.1, e1.2, e2.1, e2.2, e3.1, e3.2⟩⟩, ?_, ?_, ?_, ?_⟩
    · show -32768 ≤ x - p.px ∧ x - p.px ≤ 32768; omega
    · show -32768 ≤ y - p.py ∧ y - p.py ≤ 32768; omega
    · show -32768 ≤ z - p.pz ∧ z - p.pz ≤ 32768; omega
    · intro _ hg
      have hb : b3 = true := by
        have : (b3 && decide (ct (lp p c - 1024) < 0)) = true := hg
        simp at this; exact this.1
      subst hb
      refine ⟨rfl, ?_⟩
      show z = p.pz
      rcases h3 with ⟨_, h⟩ | ⟨h, _⟩
      · exact absurd h (by decide)
      · exact h
theorem stepN_right {M : Mp} {R : Int → Int → Int → Bool} (hR : ∀ x y z, R x y z = true ↔ M.Room x y z) (c : Cm) (n : Nat) {p : Pl} (h : Rt R p) : Rt R (stepN R c n p) := by
  induction n generalizing p with
  | zero => exact h
  | succ n ih => exact ih (tick_went hR h c).rt
theorem step_right {M : Mp} {R : Int → Int → Int → Bool} (hR : ∀ x y z, R x y z = true ↔ M.Room x y z) {p : Pl} (h : Rt R p) (c : Cm) : Rt R (step R p c) := by
  unfold step; split
  · exact h
  · exact stepN_right hR c _ h
/-- Of nothing pressed the speeds along X and Y are not greater, nor turned. -/
def slw (a b : Int) : Bool := (decide (0 ≤ a) && decide (0 ≤ b) && decide (b ≤ a)) || (decide (a ≤ 0) && decide (b ≤ 0) && decide (a ≤ b))
theorem slw_psh {v s : Int} (b : Bool) (hs : s = 4 ∨ s = 16) (v0 : -32768 ≤ v) (v1 : v ≤ 32768) : slw v (hlt b (ct (psh v 0 s))) = true := by
  obtain ⟨h1, h2⟩ := slow_psh hs v0 v1
  unfold slw hlt
  by_cases h : 0 ≤ v
  · have := h1 h; cases b <;> simp <;> omega
  · have := h2 (by omega); cases b <;> simp <;> omega
theorem tick_slower {M : Mp} {R : Int → Int → Int → Bool} (hR : ∀ x y z, R x y z = true ↔ M.Room x y z) {p : Pl} (h : Rt R p) (h0 : p.de = 0) : slw p.vx (tick R p ⟨0, 0, 0, 0, 0⟩).vx = true ∧ slw p.vy (tick R p ⟨0, 0, 0, 0, 0⟩).vy = true := by
  rw [tick_alive (by omega)]
  obtain ⟨_, _, a0, a1, b0, b1, _, _⟩ := h
  exact ⟨slw_psh _ (shr_is _ _) a0 a1, slw_psh _ (shr_is _ _) b0 b1⟩
/-- Nobody jumps but from the ground. -/
theorem prs_all : ∀ b : Fin 256, prs ((b.val ||| 1 : Nat) : Int) 1 = true ∧ prs ((b.val &&& 254 : Nat) : Int) 1 = false ∧ prs ((b.val ||| 1 : Nat) : Int) 2 = prs ((b.val : Nat) : Int) 2 ∧ prs ((b.val &&& 254 : Nat) : Int) 2 = prs ((b.val : Nat) : Int) 2 := by decide +kernel
theorem tick_air {R : Int → Int → Int → Bool} {p : Pl} {c d : Cm} (hg : p.gr = false) (h2 : d.dx = c.dx) (h3 : d.dy = c.dy) : tick R p d = tick R p c := by
  unfold tick vlx vly vlz shr lp; rw [hg, h2, h3]; rfl
theorem tick_jump {M : Mp} {R : Int → Int → Int → Bool} (hR : ∀ x y z, R x y z = true ↔ M.Room x y z) {p : Pl} (h : Rt R p) (h0 : p.de = 0) {c d : Cm} (hg : p.gr = true) (hc : prs c.bt 1 = true) (hd : prs d.bt 1 = false) (h1 : prs c.bt 2 = prs d.bt 2) (h2 : d.dx = c.dx) (h3 : d.dy = c.dy) :
    ((tick R p c).vz = 23552 ∧ (tick R p c).pz = p.pz + 24576 - 1024 ∨ (tick R p c).vz = 0 ∧ (tick R p c).pz = p.pz) ∧ (tick R p c).gr = false ∧ (tick R p c).px = (tick R p d).px ∧ (tick R p c).py = (tick R p d).py := by
  obtain ⟨hw, hf, hs⟩ := h
  obtain ⟨ix, iy, iz, _, _, _⟩ := hw
  have es : shr p c = shr p d := by unfold shr; rw [h1]
  have na := ct_near (psh p.vx c.dx (shr p c)); have nb := ct_near (psh p.vy c.dy (shr p c)); have nc := ct_near (lp p c - 1024)
  have el : vlz p c = 23552 := by unfold vlz lp; rw [hg, hc]; rfl
  rw [tick_alive (c := c) (by omega), tick_alive (c := d) (by omega)]
  have ex : vlx p d = vlx p c := by unfold vlx; rw [es, h2]
  have ey : vly p d = vly p c := by unfold vly; rw [es, h3]
  rw [ex, ey]
  obtain ⟨x, y, z, b1, b2, b3, hS, e⟩ := mvdR_slid R p (vlx p c) (vly p c) (vlz p c)
  obtain ⟨x', y', z', c1, c2, c3, hS', e'⟩ := mvdR_slid R p (vlx p c) (vly p c) (vlz p d)
  rw [e, e']
  obtain ⟨_, _, _, s3⟩ := hS.stays hR ix iy iz na nb nc hf
  have q1 : x = x' := hS.ex.trans hS'.ex.symm
  subst q1
  have q2 : y = y' := hS.ey.trans hS'.ey.symm
  subst q2
  replace s3 : (z = p.pz + vlz p c ∧ b3 = false) ∨ (z = p.pz ∧ b3 = true ∧ vlz p c ≠ 0) := s3
  rw [el] at s3 ⊢
  refine ⟨?_, ?_, rfl, rfl⟩
  · rcases s3 with ⟨hz, hb⟩ | ⟨hz, hb, _⟩
    · subst hb; left; exact ⟨rfl, by show z = _; omega⟩
    · subst hb; right; exact ⟨rfl, hz⟩
  · show (b3 && decide ((23552 : Int) < 0)) = false
    simp
/-- The hall: six cells each way, and a floor. -/
def hallM : Mp := ⟨6, 6, 6, 216, fun i => decide (i < 36)⟩
def hallR (x y z : Int) : Bool := decide (26214 ≤ x ∧ x + 26214 ≤ 393216 ∧ 26214 ≤ y ∧ y + 26214 ≤ 393216 ∧ 124518 ≤ z ∧ z + 58982 ≤ 393216)
theorem hall_sized : hallM.Sized := by decide
theorem hall_room {x y z : Int} (hx : I64 x) (hy : I64 y) (hz : I64 z) : hallR x y z = true ↔ hallM.Room x y z := by
  unfold hallR
  rw [decide_eq_true_iff]
  constructor
  · rintro ⟨p1, p2, p3, p4, p5, p6⟩
    unfold Mp.Room
    rw [sat_id (x := x - 26214) ⟨by omega, by omega⟩, sat_id (x := y - 26214) ⟨by omega, by omega⟩, sat_id (x := z - 58982) ⟨by omega, by omega⟩, sat_id (x := x + 26214) ⟨by omega, by omega⟩, sat_id (x := y + 26214) ⟨by omega, by omega⟩, sat_id (x := z + 58982) ⟨by omega, by omega⟩]
    intro _ _ _ a b c a1 a2 a3 a4 a5 a6
    dsimp only at a1 a2 a3 a4 a5 a6
    refine ⟨hall_sized, by omega, by show a < 6; omega, by omega, by show b < 6; omega, by omega, by show c < 6; omega, ?_⟩
    show decide (((c * 6 + b) * 6 + a).toNat < 36) = false
    simp; omega
  · intro h
    obtain ⟨_, ⟨p1, p2⟩, ⟨p3, p4⟩, ⟨p5, p6⟩⟩ := h.inside hx hy hz
    change x + 26214 ≤ 6 * 65536 at p2
    change y + 26214 ≤ 6 * 65536 at p4
    change z + 58982 ≤ 6 * 65536 at p6
    refine ⟨p1, by omega, p3, by omega, ?_, by omega⟩
    unfold Mp.Room at h
    rw [sat_id (x := x - 26214) ⟨by omega, by omega⟩, sat_id (x := y - 26214) ⟨by omega, by omega⟩, sat_id (x := z - 58982) ⟨by omega, by omega⟩, sat_id (x := x + 26214) ⟨by omega, by omega⟩, sat_id (x := y + 26214) ⟨by omega, by omega⟩, sat_id (x := z + 58982) ⟨by omega, by omega⟩] at h
    apply Int.not_lt.1
    intro hlt
    obtain ⟨_, _, q1, _, q2, _, _, q3⟩ := h (by dsimp only; omega) (by dsimp only; omega) (by dsimp only; omega) (x / 65536) (y / 65536) 0 (by dsimp only; omega) (by dsimp only; omega) (by dsimp only; omega) (by dsimp only; omega) (by dsimp only; omega) (by dsimp only; omega)
    change x / 65536 < 6 at q1
    change y / 65536 < 6 at q2
    have q4 : decide (((0 * 6 + y / 65536) * 6 + x / 65536).toNat < 36) = false := q3
    simp at q4
    omega
/-- A function that tells the hall's room is hallR, where it matters. -/
theorem hall_R {R : Int → Int → Int → Bool} (hR : ∀ x y z, R x y z = true ↔ hallM.Room x y z) {x y z : Int} (hx : I64 x) (hy : I64 y) (hz : I64 z) : R x y z = hallR x y z := by
  cases h : R x y z with
  | true => exact ((hall_room hx hy hz).2 ((hR _ _ _).1 h)).symm
  | false =>
    cases k : hallR x y z with
    | false => rfl
    | true => rw [(hR _ _ _).2 ((hall_room hx hy hz).1 k)] at h; exact absurd h (by decide)
theorem hall_tick {R : Int → Int → Int → Bool} (hR : ∀ x y z, R x y z = true ↔ hallM.Room x y z) {p : Pl} (hx : I64 p.px) (hy : I64 p.py) (hz : I64 p.pz) (c : Cm) : tick R p c = tick hallR p c := by
  by_cases hd : p.de > 0
  · rw [tick_dead hd, tick_dead hd]
  · rw [tick_alive hd, tick_alive hd]
    obtain ⟨x, y, z, b1, b2, b3, hS, e⟩ := mvdR_slid hallR p (vlx p c) (vly p c) (vlz p c)
    obtain ⟨i1, i2, i3⟩ := hS.i64 hx hy hz
    rw [e]
    obtain ⟨e1, e2, e3, e4, e5, e6⟩ := hS
    apply mvdR_of
    refine ⟨?_, ?_, ?_, ?_, ?_, ?_⟩
    · rw [hall_R hR (sat_i64 _) hy hz]; exact e1
    · rw [hall_R hR i1 (sat_i64 _) hz]; exact e2
    · rw [hall_R hR i1 i2 (sat_i64 _)]; exact e3
    · rw [hall_R hR (sat_i64 _) hy hz]; exact e4
    · rw [hall_R hR i1 (sat_i64 _) hz]; exact e5
    · rw [hall_R hR i1 i2 (sat_i64 _)]; exact e6
theorem tick_i64 {R : Int → Int → Int → Bool} {p : Pl} (hx : I64 p.px) (hy : I64 p.py) (hz : I64 p.pz) (c : Cm) : I64 (tick R p c).px ∧ I64 (tick R p c).py ∧ I64 (tick R p c).pz := by
  by_cases hd : p.de > 0
  · rw [tick_dead hd]; exact ⟨hx, hy, hz⟩
  · rw [tick_alive hd]
    obtain ⟨x, y, z, b1, b2, b3, hS, e⟩ := mvdR_slid R p (vlx p c) (vly p c) (vlz p c)
    rw [e]; exact hS.i64 hx hy hz
theorem hall_stepN {R : Int → Int → Int → Bool} (hR : ∀ x y z, R x y z = true ↔ hallM.Room x y z) (c : Cm) (n : Nat) {p : Pl} (hx : I64 p.px) (hy : I64 p.py) (hz : I64 p.pz) : stepN R c n p = stepN hallR c n p := by
  induction n generalizing p with
  | zero => rfl
  | succ n ih =>
    obtain ⟨i1, i2, i3⟩ := tick_i64 (R := hallR) hx hy hz c
    unfold stepN
    rw [hall_tick hR hx hy hz]; exact ih i1 i2 i3
/-- Who stands in the hall's midst, and falls. -/
def fell : Nat → Pl
  | 0 => ⟨1, 196608, 196608, 196608, 0, 0, 0, false, 0, 0, 0, 0, 0, 0, 0⟩
  | n + 1 => stepN hallR ⟨0, 0, 0, 0, 8⟩ 8 (fell n)
def fellTo (z v : Int) (g : Bool) : Pl := ⟨1, 196608, 196608, z, 0, 0, v, g, 0, 0, 0, 0, 0, 0, 0⟩
end Go.Proofs.Ythcmcjklhcfenaa
