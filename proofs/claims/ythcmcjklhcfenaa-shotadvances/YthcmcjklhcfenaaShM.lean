/- Layer 12 (shot): how shots fly, as plain mathematics. No Go in this text. -/
import Derived.WalkKit
namespace Go.Proofs.Ythcmcjklhcfenaa
open Go.RowKit
set_option linter.unusedVariables false

/-- A shot. -/
structure Sh where
  id : Int
  ow : Int
  kd : Int
  px : Int
  py : Int
  pz : Int
  vx : Int
  vy : Int
  vz : Int
  fu : Int
  rs : Bool
deriving DecidableEq
def sct (n : Int) : Int := max (-32768) (min n 32768)
/-- Turned, and halved. -/
def hfd (n : Int) : Int := (-n).tdiv 2
def slw2 (n : Int) : Bool := decide (-2048 < n) && decide (n < 2048)
/-- One axis of a grenade: where it is, how fast, whether it was solid. -/
def axN (b : Bool) (n v : Int) : Int := if b then n else n + v
def axV (b : Bool) (v : Int) : Int := if b then hfd v else v
/-- A grenade on its way: d1 d2 d3 tell whether the place along each axis is solid. -/
def Sh.bnc (s : Sh) (a b c : Int) (d1 d2 d3 : Bool) : Sh :=
  let x := axV d1 a; let y := axV d2 b; let z := axV d3 c
  let r := d3 && decide (c < 0) && slw2 x && slw2 y && slw2 z
  { s with px := axN d1 s.px a, py := axN d2 s.py b, pz := axN d3 s.pz c, vx := if r then 0 else x, vy := if r then 0 else y, vz := if r then 0 else z, rs := r || s.rs }
def sgr (S : Int → Int → Int → Bool) (s : Sh) (a b c : Int) : Sh :=
  s.bnc a b c (S (s.px + a) s.py s.pz) (S (axN (S (s.px + a) s.py s.pz) s.px a) (s.py + b) s.pz)
    (S (axN (S (s.px + a) s.py s.pz) s.px a) (axN (S (axN (S (s.px + a) s.py s.pz) s.px a) (s.py + b) s.pz) s.py b) (s.pz + c))
def sstep (S : Int → Int → Int → Bool) (s : Sh) : Sh × Bool :=
  if s.fu - 1 ≤ 0 then ({ s with fu := s.fu - 1 }, true)
  else if s.rs = true then ({ s with fu := s.fu - 1 }, false)
  else if s.kd = 0 then
    if S (s.px + s.vx) (s.py + s.vy) (s.pz + s.vz) = true then ({ s with fu := s.fu - 1 }, true)
    else ({ s with px := s.px + s.vx, py := s.py + s.vy, pz := s.pz + s.vz, fu := s.fu - 1 }, false)
  else (sgr S { s with fu := s.fu - 1 } (sct s.vx) (sct s.vy) (sct (s.vz - 1024)), false)
def adv (S : Int → Int → Int → Bool) : Nat → Sh → Sh × Nat × Bool
  | 0, s => (s, 0, false)
  | n + 1, s => if (sstep S s).2 = true then ((sstep S s).1, 1, true) else ((adv S n (sstep S s).1).1, (adv S n (sstep S s).1).2.1 + 1, (adv S n (sstep S s).1).2.2)

theorem adv_succ (S : Int → Int → Int → Bool) (n : Nat) (s : Sh) : adv S (n + 1) s = if (sstep S s).2 = true then ((sstep S s).1, 1, true) else ((adv S n (sstep S s).1).1, (adv S n (sstep S s).1).2.1 + 1, (adv S n (sstep S s).1).2.2) := rfl
theorem sct_near (n : Int) : -32768 ≤ sct n ∧ sct n ≤ 32768 := by unfold sct; omega
theorem hfd_near {n : Int} (h : -32768 ≤ n ∧ n ≤ 32768) : -16384 ≤ hfd n ∧ hfd n ≤ 16384 := by
  unfold hfd
  by_cases h0 : 0 ≤ -n
  · rw [Int.tdiv_eq_ediv_of_nonneg h0]; omega
  · obtain ⟨m, hm⟩ : ∃ m, -n = -m := ⟨n, rfl⟩
    rw [hm, Int.neg_tdiv, Int.tdiv_eq_ediv_of_nonneg (by omega)]; omega
theorem axV_near {b : Bool} {v : Int} (h : -32768 ≤ v ∧ v ≤ 32768) : -32768 ≤ axV b v ∧ axV b v ≤ 32768 := by
  unfold axV; split
  · have := hfd_near h; omega
  · exact h
theorem sstep_fuse (S : Int → Int → Int → Bool) (s : Sh) : (sstep S s).1.fu = s.fu - 1 := by
  unfold sstep; repeat' split
  all_goals rfl
theorem sstep_ids (S : Int → Int → Int → Bool) (s : Sh) : (sstep S s).1.id = s.id ∧ (sstep S s).1.ow = s.ow ∧ (sstep S s).1.kd = s.kd := by
  unfold sstep; repeat' split
  all_goals exact ⟨rfl, rfl, rfl⟩
theorem sstep_rocket {S : Int → Int → Int → Bool} {s : Sh} (h : s.kd = 0) : (sstep S s).1.vx = s.vx ∧ (sstep S s).1.vy = s.vy ∧ (sstep S s).1.vz = s.vz := by
  unfold sstep; repeat' split
  all_goals first | exact ⟨rfl, rfl, rfl⟩ | contradiction
/-- Behind its fuse it has burst. -/
theorem sstep_old {S : Int → Int → Int → Bool} {s : Sh} (h : s.fu ≤ 1) : (sstep S s).2 = true := by
  unfold sstep; rw [if_pos (by omega)]
/-- What is in no solid place never is. -/
theorem sgr_free {S : Int → Int → Int → Bool} {s : Sh} (a b c : Int) (h : S s.px s.py s.pz = false) : S (sgr S s a b c).px (sgr S s a b c).py (sgr S s a b c).pz = false := by
  unfold sgr Sh.bnc
  dsimp only
  have e1 : ∀ f : Bool, S (s.px + a) s.py s.pz = f → S (axN f s.px a) s.py s.pz = false := by
    intro f hf; unfold axN; cases f
    · exact hf
    · exact h
  obtain ⟨f1, hf1⟩ : ∃ f, S (s.px + a) s.py s.pz = f := ⟨_, rfl⟩
  have g1 := e1 f1 hf1
  rw [hf1]
  obtain ⟨x, hx⟩ : ∃ x, axN f1 s.px a = x := ⟨_, rfl⟩
  rw [hx] at g1 ⊢
  obtain ⟨f2, hf2⟩ : ∃ f, S x (s.py + b) s.pz = f := ⟨_, rfl⟩
  rw [hf2]
  have g2 : S x (axN f2 s.py b) s.pz = false := by
    unfold axN; cases f2
    · exact hf2
    · exact g1
  obtain ⟨y, hy⟩ : ∃ y, axN f2 s.py b = y := ⟨_, rfl⟩
  rw [hy] at g2 ⊢
  obtain ⟨f3, hf3⟩ : ∃ f, S x y (s.pz + c) = f := ⟨_, rfl⟩
  rw [hf3]
  unfold axN; cases f3
  · exact hf3
  · exact g2
theorem sstep_free {S : Int → Int → Int → Bool} {s : Sh} (h : S s.px s.py s.pz = false) : S (sstep S s).1.px (sstep S s).1.py (sstep S s).1.pz = false := by
  unfold sstep
  split
  · exact h
  · split
    · exact h
    · split
      · split
        · exact h
        · rename_i hn; exact Bool.eq_false_iff.2 hn
      · exact sgr_free (s := { s with fu := s.fu - 1 }) _ _ _ h
/-- How far it may be, and how fast. -/
structure Sh.In (s : Sh) (K F : Int) : Prop where
  x0 : -K ≤ s.px
  x1 : s.px ≤ K
  y0 : -K ≤ s.py
  y1 : s.py ≤ K
  z0 : -K ≤ s.pz
  z1 : s.pz ≤ K
  a0 : -262144 ≤ s.vx
  a1 : s.vx ≤ 262144
  b0 : -262144 ≤ s.vy
  b1 : s.vy ≤ 262144
  c0 : -262144 ≤ s.vz
  c1 : s.vz ≤ 262144
  f0 : -F ≤ s.fu
  f1 : s.fu ≤ F
theorem axN_near {b : Bool} {n v K L : Int} (h0 : -K ≤ n) (h1 : n ≤ K) (v0 : -L ≤ v) (v1 : v ≤ L) (hL : 0 ≤ L) : -(K + L) ≤ axN b n v ∧ axN b n v ≤ K + L := by unfold axN; split <;> omega
theorem sstep_in {S : Int → Int → Int → Bool} {s : Sh} {K F : Int} (h : s.In K F) : (sstep S s).1.In (K + 262144) (F + 1) := by
  obtain ⟨x0, x1, y0, y1, z0, z1, a0, a1, b0, b1, c0, c1, f0, f1⟩ := h
  unfold sstep; repeat' split
  · constructor <;> dsimp only <;> omega
  · constructor <;> dsimp only <;> omega
  · constructor <;> dsimp only <;> omega
  · constructor <;> dsimp only <;> omega
  · have n1 := sct_near s.vx; have n2 := sct_near s.vy; have n3 := sct_near (s.vz - 1024)
    unfold sgr Sh.bnc
    have g := fun (d : Bool) => axN_near (b := d) (L := 262144) x0 x1 (v := sct s.vx) (by omega) (by omega) (by omega)
    have g2 := fun (d : Bool) => axN_near (b := d) (L := 262144) y0 y1 (v := sct s.vy) (by omega) (by omega) (by omega)
    have g3 := fun (d : Bool) => axN_near (b := d) (L := 262144) z0 z1 (v := sct (s.vz - 1024)) (by omega) (by omega) (by omega)
    have k1 := fun (d : Bool) => axV_near (b := d) n1
    have k2 := fun (d : Bool) => axV_near (b := d) n2
    have k3 := fun (d : Bool) => axV_near (b := d) n3
    constructor <;> dsimp only
    · exact (g _).1
    · exact (g _).2
    · exact (g2 _).1
    · exact (g2 _).2
    · exact (g3 _).1
    · exact (g3 _).2
    · split; omega; have := k1 (S (s.px + sct s.vx) s.py s.pz); omega
    · split; omega; have := k1 (S (s.px + sct s.vx) s.py s.pz); omega
    · split
      · omega
      · exact Int.le_trans (by omega) (k2 _).1
    · split
      · omega
      · exact Int.le_trans (k2 _).2 (by omega)
    · split
      · omega
      · exact Int.le_trans (by omega) (k3 _).1
    · split
      · omega
      · exact Int.le_trans (k3 _).2 (by omega)
    · omega
    · omega
theorem adv_in {S : Int → Int → Int → Bool} (n : Nat) {s : Sh} {K F : Int} (h : s.In K F) : (adv S n s).1.In (K + n * 262144) (F + n) := by
  induction n generalizing s K F with
  | zero =>
    have e1 : K + ((0 : Nat) : Int) * 262144 = K := by simp
    have e2 : F + ((0 : Nat) : Int) = F := by simp
    rw [e1, e2]; exact h
  | succ n ih =>
    have h1 := sstep_in (S := S) h
    have h2 := ih h1
    have mono : ∀ {t : Sh} {K F K' F' : Int}, t.In K F → K ≤ K' → F ≤ F' → t.In K' F' := fun h hk hf => by
      obtain ⟨x0, x1, y0, y1, z0, z1, a0, a1, b0, b1, c0, c1, f0, f1⟩ := h
      exact ⟨by omega, by omega, by omega, by omega, by omega, by omega, a0, a1, b0, b1, c0, c1, by omega, by omega⟩
    unfold adv
    split
    · exact mono h1 (by omega) (by omega)
    · exact mono h2 (by omega) (by omega)
/-- To advance is to step, in whatever parts. -/
theorem adv_count (S : Int → Int → Int → Bool) (n : Nat) (s : Sh) : (adv S n s).2.1 ≤ n ∧ ((adv S n s).2.2 = false → (adv S n s).2.1 = n) := by
  induction n generalizing s with
  | zero => exact ⟨Nat.le_refl _, fun _ => rfl⟩
  | succ n ih =>
    obtain ⟨i1, i2⟩ := ih (sstep S s).1
    unfold adv
    split
    · exact ⟨by dsimp only; omega, fun h => absurd h (by simp)⟩
    · exact ⟨by dsimp only; omega, fun h => by dsimp only at h ⊢; rw [i2 h]⟩
theorem adv_burst {S : Int → Int → Int → Bool} {m n : Nat} {s : Sh} (h : (adv S m s).2.2 = true) : adv S (m + n) s = adv S m s := by
  induction m generalizing s with
  | zero => exact absurd h (by simp [adv])
  | succ m ih =>
    rw [Nat.succ_add]
    unfold adv at h ⊢
    split
    · rfl
    · rename_i hn
      rw [if_neg hn] at h
      rw [ih h]
theorem adv_on {S : Int → Int → Int → Bool} {m n : Nat} {s : Sh} (h : (adv S m s).2.2 = false) : adv S (m + n) s = ((adv S n (adv S m s).1).1, m + (adv S n (adv S m s).1).2.1, (adv S n (adv S m s).1).2.2) := by
  induction m generalizing s with
  | zero => simp [adv]
  | succ m ih =>
    rw [Nat.succ_add, adv_succ]
    rw [adv_succ] at h
    by_cases hn : (sstep S s).2 = true
    · rw [if_pos hn] at h; exact absurd h (by simp)
    · rw [if_neg hn] at h
      rw [if_neg hn, adv_succ, if_neg hn, ih h]
      dsimp only
      refine Prod.ext rfl (Prod.ext ?_ rfl)
      dsimp only; omega
/-- What rests stays, until its fuse is over. -/
theorem adv_rests {S : Int → Int → Int → Bool} {s : Sh} (h : s.rs = true) (n : Nat) (hf : (n : Int) < s.fu) : adv S n s = ({ s with fu := s.fu - n }, n, false) := by
  induction n generalizing s with
  | zero => simp [adv]
  | succ n ih =>
    have e : sstep S s = ({ s with fu := s.fu - 1 }, false) := by unfold sstep; rw [if_neg (by omega), if_pos h]
    unfold adv
    rw [e]
    dsimp only
    rw [if_neg (by simp), ih (s := { s with fu := s.fu - 1 }) h (by dsimp only; omega)]
    dsimp only
    rw [show s.fu - 1 - (n : Int) = s.fu - ((n + 1 : Nat) : Int) by omega]
/-- How fast a shot is made along an axis. -/
def mkv (d s l : Int) : Int := (d * s).tdiv l
theorem mkv_turn (d s l : Int) : mkv (-d) s l = - mkv d s l := by unfold mkv; rw [Int.neg_mul, Int.neg_tdiv]
theorem mkv_goes {d s l : Int} (hs : 0 ≤ s) (hl : 0 < l) (h : (d : Int) ≤ l) (h' : -l ≤ d) : mkv d s l = 0 ∨ 0 < d ∧ 0 < mkv d s l ∧ mkv d s l ≤ s ∨ d < 0 ∧ mkv d s l < 0 ∧ -s ≤ mkv d s l := by
  have up : ∀ e : Int, 0 ≤ e → e ≤ l → 0 ≤ mkv e s l ∧ mkv e s l ≤ s := fun e h0 h1 => by
    unfold mkv
    have h2 : 0 ≤ e * s := Int.mul_nonneg h0 hs
    rw [Int.tdiv_eq_ediv_of_nonneg h2]
    refine ⟨Int.ediv_nonneg h2 (Int.le_of_lt hl), ?_⟩
    have h3 : e * s ≤ s * l := by rw [Int.mul_comm s l]; exact Int.mul_le_mul_of_nonneg_right h1 hs
    exact Int.ediv_le_of_le_mul hl h3
  by_cases h0 : mkv d s l = 0
  · exact .inl h0
  · by_cases hd : 0 ≤ d
    · obtain ⟨u1, u2⟩ := up d hd h
      have : d ≠ 0 := fun e => h0 (by rw [e]; unfold mkv; simp)
      exact .inr (.inl ⟨by omega, by omega, u2⟩)
    · obtain ⟨u1, u2⟩ := up (-d) (by omega) (by omega)
      rw [mkv_turn] at u1 u2
      exact .inr (.inr ⟨by omega, by omega, by omega⟩)
end Go.Proofs.Ythcmcjklhcfenaa
