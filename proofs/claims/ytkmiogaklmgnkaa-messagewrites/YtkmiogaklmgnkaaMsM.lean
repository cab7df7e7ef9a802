/- Layer 5 (message): messages as programs that ask a way for numbers; what is checked, written and read of such. No program of Go. -/
import Derived.Test.YtkmiogaklmgnkaaBtG
namespace Go.Proofs.Ytkmiogaklmgnkaa
set_option linter.unusedVariables false

/-- How a number is told: by so many bits; from where to where it may be. -/
structure Rm where
  bits : Nat
  least : Int
  most : Int
  few : bits ≤ 62
def Rm.has (r : Rm) (n : Int) : Prop := r.least ≤ n ∧ n ≤ r.most
instance (r : Rm) (n : Int) : Decidable (r.has n) := by unfold Rm.has; exact inferInstance
/-- All that may be has room. -/
def Rm.fits (r : Rm) : Bool → Prop
  | false => 0 ≤ r.least ∧ r.most < 2 ^ r.bits ∧ r.bits ≤ 62
  | true => -2 ^ (r.bits - 1) ≤ r.least ∧ r.most < 2 ^ (r.bits - 1) ∧ 1 ≤ r.bits ∧ r.bits ≤ 62
instance (r : Rm) (s : Bool) : Decidable (r.fits s) := by cases s <;> unfold Rm.fits <;> exact inferInstance
/-- The bits of a number. -/
def bitsN (n : Int) (r : Rm) : List Bool := low (n % 2 ^ 64).toNat r.bits
theorem bitsN_length (n : Int) (r : Rm) : (bitsN n r).length = r.bits := low_length _ _
/-- What asks a way for numbers. -/
inductive Pg (α : Type) where
  | ret (a : α)
  | ask (s : Bool) (n : Int) (r : Rm) (k : Int → Pg α)
namespace Pg
variable {α β σ : Type}
def bind : Pg α → (α → Pg β) → Pg β
  | ret a, f => f a
  | ask s n r k, f => ask s n r fun x => (k x).bind f
/-- A way. -/
abbrev Step (σ : Type) := Bool → σ → Int → Rm → Int × σ
def run (h : Step σ) : Pg α → σ → α × σ
  | ret a, t => (a, t)
  | ask s n r k, t => (k (h s t n r).1).run h (h s t n r).2
theorem run_ret (h : Step σ) (a : α) (t : σ) : (ret a).run h t = (a, t) := rfl
theorem run_ask (h : Step σ) (s : Bool) (n : Int) (r : Rm) (k : Int → Pg α) (t : σ) : (ask s n r k).run h t = (k (h s t n r).1).run h (h s t n r).2 := rfl
theorem run_bind (h : Step σ) (p : Pg α) (f : α → Pg β) (t : σ) : (p.bind f).run h t = (f (p.run h t).1).run h (p.run h t).2 := by
  induction p generalizing t with
  | ret a => rfl
  | ask s n r k ih => exact ih _ _
/-- Each state on the way is so. -/
def All (ok : σ → Prop) (h : Step σ) : Pg α → σ → Prop
  | ret a, t => True
  | ask s n r k, t => ok t ∧ (k (h s t n r).1).All ok h (h s t n r).2
theorem all_true (ok : σ → Prop) (hok : ∀ t, ok t) (h : Step σ) (p : Pg α) (t : σ) : p.All ok h t := by
  induction p generalizing t with
  | ret a => trivial
  | ask s n r k ih => exact ⟨hok t, ih _ _⟩
theorem all_bind (ok : σ → Prop) (h : Step σ) (p : Pg α) (f : α → Pg β) (t : σ) : (p.bind f).All ok h t ↔ p.All ok h t ∧ (f (p.run h t).1).All ok h (p.run h t).2 := by
  induction p generalizing t with
  | ret a => exact ⟨fun h => ⟨trivial, h⟩, fun h => h.2⟩
  | ask s n r k ih => simp only [bind, All, run, ih, and_assoc]
/-- The three ways. -/
def ckS : Step Bool := fun _ t n r => if r.has n then (n, t) else (0, true)
def wrS : Step (List Bool) := fun _ t n r => (n, t ++ bitsN n r)
def rdx (s : Bool) (l : List Bool) : Int := if s then sgn l else (val l : Int)
def rdS : Step (List Bool × Int) := fun s t n r =>
  if t.2 = 0 then
    if r.bits ≤ t.1.length then
      if r.has (rdx s (t.1.take r.bits)) then (rdx s (t.1.take r.bits), (t.1.drop r.bits, 0)) else (0, (t.1.drop r.bits, 3))
    else (0, ([], 2))
  else (0, t)
/-- All numbers may be. -/
def valid : Pg α → Prop
  | ret a => True
  | ask s n r k => (r.has n ∧ r.fits s) ∧ (k n).valid
def val : Pg α → α
  | ret a => a
  | ask s n r k => (k n).val
def enc : Pg α → List Bool
  | ret a => []
  | ask s n r k => bitsN n r ++ (k n).enc
theorem val_bind (p : Pg α) (f : α → Pg β) : (p.bind f).val = (f p.val).val := by
  induction p with
  | ret a => rfl
  | ask s n r k ih => exact ih _
theorem enc_bind (p : Pg α) (f : α → Pg β) : (p.bind f).enc = p.enc ++ (f p.val).enc := by
  induction p with
  | ret a => rfl
  | ask s n r k ih => simp only [bind, enc, val, ih, List.append_assoc]
theorem valid_bind (p : Pg α) (f : α → Pg β) : (p.bind f).valid ↔ p.valid ∧ (f p.val).valid := by
  induction p with
  | ret a => exact ⟨fun h => ⟨trivial, h⟩, fun h => h.2⟩
  | ask s n r k ih => simp only [bind, valid, val, ih, and_assoc]
theorem run_wr (p : Pg α) (t : List Bool) : p.run wrS t = (p.val, t ++ p.enc) := by
  induction p generalizing t with
  | ret a => simp [run, val, enc]
  | ask s n r k ih => simp only [run, val, enc, wrS, ih, List.append_assoc]
/-- Its rooms are such that all has room. -/
def fit : Pg α → Prop
  | ret a => True
  | ask s n r k => r.fits s ∧ ∀ x, (k x).fit
theorem fit_bind (p : Pg α) (f : α → Pg β) (h : p.fit) (hf : ∀ a, (f a).fit) : (p.bind f).fit := by
  induction p with
  | ret a => exact hf a
  | ask s n r k ih => exact ⟨h.1, fun x => ih x (h.2 x)⟩
theorem ck_true (p : Pg α) : (p.run ckS true).2 = true := by
  induction p with
  | ret a => rfl
  | ask s n r k ih => simp only [run, ckS]; split <;> exact ih _
theorem run_ck (p : Pg α) (hf : p.fit) : (p.valid ∧ p.run ckS false = (p.val, false)) ∨ (¬ p.valid ∧ (p.run ckS false).2 = true) := by
  induction p with
  | ret a => exact .inl ⟨trivial, rfl⟩
  | ask s n r k ih =>
    by_cases h : r.has n
    · simp only [run, ckS, valid, val, h, if_true, true_and]
      rcases ih n (hf.2 n) with ⟨h1, h2⟩ | ⟨h1, h2⟩
      · exact .inl ⟨⟨hf.1, h1⟩, h2⟩
      · exact .inr ⟨fun e => h1 e.2, h2⟩
    · right
      simp only [run, ckS, valid, h, if_false, false_and, not_false_eq_true, true_and]
      exact ck_true _
/-- The same shape: the same is asked, whatever the numbers are. -/
def Sh : Pg α → Pg α → Prop
  | ret a, ret b => a = b
  | ask s n r k, ask s' n' r' k' => s = s' ∧ r = r' ∧ ∀ x, Sh (k x) (k' x)
  | _, _ => False
theorem sh_bind {p q : Pg α} {f g : α → Pg β} (h : Sh p q) (hf : ∀ a, Sh (f a) (g a)) : Sh (p.bind f) (q.bind g) := by
  induction p generalizing q with
  | ret a => cases q with
    | ret b => cases h; exact hf a
    | ask => exact h.elim
  | ask s n r k ih => cases q with
    | ret b => exact h.elim
    | ask s' n' r' k' => exact ⟨h.1, h.2.1, fun x => ih x (h.2.2 x)⟩
theorem sh_refl (p : Pg α) : Sh p p := by
  induction p with
  | ret a => rfl
  | ask s n r k ih => exact ⟨rfl, rfl, ih⟩
theorem rd_err (p : Pg α) (l : List Bool) {e : Int} (he : e ≠ 0) : (p.run rdS (l, e)).2 = (l, e) := by
  induction p with
  | ret a => rfl
  | ask s n r k ih => simp only [run, rdS, he, if_false]; exact ih _
end Pg
theorem bitsN_val {n : Int} {r : Rm} (h : r.has n) (hf : r.fits false) : (val (bitsN n r) : Int) = n := by
  obtain ⟨h1, h2⟩ := h; obtain ⟨f1, f2, f3⟩ := hf
  have hp : (2 : Int) ^ r.bits ≤ 2 ^ 62 := by
    have : (2 : Nat) ^ r.bits ≤ 2 ^ 62 := Nat.pow_le_pow_right (by decide) f3
    exact_mod_cast this
  have e1 : n % 2 ^ 64 = n := Int.emod_eq_of_lt (by omega) (by omega)
  rw [bitsN, val_low, e1, Nat.mod_eq_of_lt]
  · omega
  · have : ((n.toNat : Nat) : Int) < ((2 ^ r.bits : Nat) : Int) := by rw [Int.toNat_of_nonneg (by omega)]; push_cast; omega
    exact_mod_cast this
theorem low_head (n c : Nat) : (low n (c + 1)).head? = some (n.testBit c) := rfl
theorem bitsN_sgn {n : Int} {r : Rm} (h : r.has n) (hf : r.fits true) : sgn (bitsN n r) = n := by
  obtain ⟨h1, h2⟩ := h; obtain ⟨f1, f2, f3, f4⟩ := hf
  obtain ⟨c, hc⟩ : ∃ c, r.bits = c + 1 := ⟨r.bits - 1, by omega⟩
  rw [hc, Nat.add_sub_cancel] at f1 f2
  have hp : (2 : Nat) ^ c ≤ 2 ^ 61 := Nat.pow_le_pow_right (by decide) (by omega)
  obtain ⟨P, hP⟩ : ∃ P : Nat, 2 ^ c = P := ⟨_, rfl⟩
  have hPi : (2 : Int) ^ c = (P : Int) := by rw [← hP]; push_cast; rfl
  rw [hPi] at f1 f2
  rw [hP] at hp
  have hP0 : 0 < P := by rw [← hP]; exact Nat.pow_pos (by decide)
  unfold sgn
  rw [bitsN_length, bitsN, hc, val_low, low_head, Nat.pow_succ, hP]
  have e2 : (2 : Int) ^ (c + 1) = 2 * (P : Int) := by rw [Int.pow_succ, hPi]; omega
  rw [e2]
  obtain ⟨M, hM⟩ : ∃ M : Nat, (n % 2 ^ 64).toNat = M := ⟨_, rfl⟩
  have hMn : (M : Int) = n % 2 ^ 64 := by rw [← hM]; exact Int.toNat_of_nonneg (Int.emod_nonneg _ (by decide))
  have h64 : (2 : Nat) ^ 64 = 2 ^ (63 - c) * (P * 2) := by rw [← hP, ← Nat.pow_succ, ← Nat.pow_add]; congr 1; omega
  obtain ⟨D, hD⟩ : ∃ D : Nat, 2 ^ (63 - c) = D := ⟨_, rfl⟩
  rw [hD] at h64
  have hbit : M.testBit c = decide (M / P % 2 = 1) := by rw [Nat.testBit_eq_decide_div_mod_eq, hP]
  rw [hM, hbit]
  have hsplit : M % (P * 2) = (M / P % 2) * P + M % P := by
    rw [Nat.mod_mul, Nat.mul_comm P, Nat.add_comm]
  by_cases hn : 0 ≤ n
  · have hMn' : M = n.toNat := by have : n % 2 ^ 64 = n := Int.emod_eq_of_lt hn (by omega); omega
    have hlt : M < P := by omega
    rw [Nat.div_eq_of_lt hlt, Nat.mod_eq_of_lt (by omega : M < P * 2)]
    simp
    omega
  · have hMn' : (M : Int) = n + 2 ^ 64 := by
      have : n % 2 ^ 64 = n + 2 ^ 64 := by rw [← Int.add_emod_right]; exact Int.emod_eq_of_lt (by omega) (by omega)
      omega
    obtain ⟨q, hq⟩ : ∃ q : Nat, n + (P : Int) = (q : Int) := ⟨(n + P).toNat, by omega⟩
    have hM2 : M = P + q + (D - 1) * (P * 2) := by
      have h3 : (D - 1) * (P * 2) + P * 2 = 2 ^ 64 := by
        rw [h64]
        have hD0 : 1 ≤ D := by rw [← hD]; exact Nat.pow_pos (by decide)
        obtain ⟨D', rfl⟩ : ∃ D', D = D' + 1 := ⟨D - 1, by omega⟩
        rw [Nat.add_sub_cancel, Nat.add_mul, Nat.one_mul]
      omega
    have hqP : q < P := by omega
    have hm1 : M % (P * 2) = P + q := by
      rw [hM2, Nat.add_mul_mod_self_right, Nat.mod_eq_of_lt (by omega)]
    have hd1 : M / P % 2 = 1 := by
      have : (M / P % 2) * P + M % P = P + q := by rw [← hsplit, hm1]
      have hlt := Nat.mod_lt M hP0
      rcases Nat.mod_two_eq_zero_or_one (M / P) with h0 | h0
      · rw [h0, Nat.zero_mul] at this; omega
      · exact h0
    rw [hm1, hd1]
    simp
    omega
theorem rdx_bitsN {s : Bool} {n : Int} {r : Rm} (h : r.has n) (hf : r.fits s) : Pg.rdx s (bitsN n r) = n := by
  cases s
  · exact bitsN_val h hf
  · exact bitsN_sgn h hf
/-- Of so many bits: these are the bits of what is read. -/
theorem bitsN_rdx {s : Bool} {l : List Bool} {r : Rm} (hl : l.length = r.bits) (hf : r.fits s) : bitsN (Pg.rdx s l) r = l := by
  have hv := val_lt l
  cases s with
  | false =>
    obtain ⟨f1, f2, f3⟩ := hf
    have hp : (2 : Nat) ^ l.length ≤ 2 ^ 62 := Nat.pow_le_pow_right (by decide) (by omega)
    have e1 : ((val l : Nat) : Int) % 2 ^ 64 = (val l : Nat) := Int.emod_eq_of_lt (by omega) (by omega)
    unfold bitsN Pg.rdx
    simp only [Bool.false_eq_true, if_false]
    rw [e1, Int.toNat_natCast, ← hl, low_val]
  | true =>
    obtain ⟨f1, f2, f3, f4⟩ := hf
    have hp : (2 : Nat) ^ l.length ≤ 2 ^ 62 := Nat.pow_le_pow_right (by decide) (by omega)
    unfold bitsN Pg.rdx sgn
    simp only [if_true]
    rw [← hl]
    have key : ∃ d : Nat, ((((val l : Nat) : Int) - if l.head? = some true then 2 ^ l.length else 0) % 2 ^ 64).toNat = val l + d * 2 ^ l.length := by
      split
      · have h64 : (2 : Nat) ^ 64 = 2 ^ (64 - l.length) * 2 ^ l.length := by rw [← Nat.pow_add]; congr 1; omega
        have hD0 : 1 ≤ 2 ^ (64 - l.length) := Nat.pow_pos (by decide)
        generalize 2 ^ (64 - l.length) = D at *
        have hPi : (2 : Int) ^ l.length = ((2 ^ l.length : Nat) : Int) := by push_cast; rfl
        rw [hPi]
        generalize 2 ^ l.length = P at *
        refine ⟨D - 1, ?_⟩
        obtain ⟨D', rfl⟩ : ∃ D', D = D' + 1 := ⟨D - 1, by omega⟩
        rw [Nat.add_sub_cancel]
        rw [Nat.add_mul, Nat.one_mul] at h64
        generalize D' * P = E at *
        have : ((val l : Int) - (P : Int)) % 2 ^ 64 = (val l : Int) - (P : Int) + 2 ^ 64 := by rw [← Int.add_emod_right]; exact Int.emod_eq_of_lt (by omega) (by omega)
        omega
      · exact ⟨0, by rw [Int.sub_zero, Int.emod_eq_of_lt (by omega) (by omega)]; omega⟩
    obtain ⟨d, hd⟩ := key
    rw [hd, ← low_mod _ _ _ (Nat.le_refl _), Nat.add_mul_mod_self_right, low_mod _ _ _ (Nat.le_refl _), low_val]
namespace Pg
variable {α β σ : Type}
theorem rd_ok {s : Bool} {n m : Int} {r : Rm} (t : List Bool) (h : r.has n) (hf : r.fits s) : rdS s (bitsN n r ++ t, 0) m r = (n, (t, 0)) := by
  have e1 : (bitsN n r ++ t).take r.bits = bitsN n r := by rw [List.take_left' (bitsN_length n r)]
  have e2 : (bitsN n r ++ t).drop r.bits = t := by rw [List.drop_left' (bitsN_length n r)]
  unfold rdS
  simp only [if_true, List.length_append, bitsN_length, e1, e2]
  rw [if_pos (by omega), rdx_bitsN h hf, if_pos h]
/-- What was written is read. -/
theorem rd_enc {p q : Pg α} (hs : Sh q p) (hv : p.valid) (t : List Bool) : q.run rdS (p.enc ++ t, 0) = (p.val, (t, 0)) := by
  induction p generalizing q with
  | ret a => cases q with
    | ret b => cases hs; rfl
    | ask => exact hs.elim
  | ask s n r k ih => cases q with
    | ret b => exact hs.elim
    | ask s' n' r' k' =>
      obtain ⟨rfl, rfl, hk⟩ := hs
      simp only [run, enc, val, List.append_assoc, rd_ok _ hv.1.1 hv.1.2]
      exact ih n (hk n) hv.2
/-- What is cut off lacks. -/
theorem rd_cut {p q : Pg α} (hs : Sh q p) (hv : p.valid) {t u : List Bool} (hp : t ++ u = p.enc) (hu : u ≠ []) : (q.run rdS (t, 0)).2.2 = 2 := by
  induction p generalizing q t with
  | ret a => simp only [enc, List.append_eq_nil_iff] at hp; exact (hu hp.2).elim
  | ask s n r k ih => cases q with
    | ret b => exact hs.elim
    | ask s' n' r' k' =>
      obtain ⟨rfl, rfl, hk⟩ := hs
      by_cases hl : r'.bits ≤ t.length
      · have ht : t = bitsN n r' ++ t.drop r'.bits := by
          have h1 : (t ++ u).take r'.bits = bitsN n r' := by rw [hp, enc, List.take_left' (bitsN_length n r')]
          rw [List.take_append_of_le_length hl] at h1
          rw [← h1, List.take_append_drop]
        rw [ht] at hp ⊢
        simp only [run, rd_ok _ hv.1.1 hv.1.2]
        rw [enc, List.append_assoc] at hp
        exact ih n (hk n) hv.2 (List.append_cancel_left hp)
      · simp only [run, rdS, if_true, hl, if_false]
        rw [rd_err _ _ (by decide)]
/-- What was read well. -/
theorem rd_ask {s : Bool} {n : Int} {r : Rm} {k : Int → Pg α} {t t' : List Bool} {a : α} (hf : r.fits s) (h : (ask s n r k).run rdS (t, 0) = (a, (t', 0))) :
    ∃ x t1, r.has x ∧ t = bitsN x r ++ t1 ∧ (k x).run rdS (t1, 0) = (a, (t', 0)) := by
  simp only [run, rdS, if_true] at h
  split at h
  · rename_i hl
    split at h
    · rename_i hh
      refine ⟨_, _, hh, ?_, h⟩
      rw [bitsN_rdx (by rw [List.length_take]; omega) hf, List.take_append_drop]
    · have := congrArg Prod.snd h
      rw [rd_err _ _ (by decide)] at this
      simp at this
  · have := congrArg Prod.snd h
    rw [rd_err _ _ (by decide)] at this
    simp at this
theorem rd_errs (p : Pg α) (t : List Bool) : (p.run rdS (t, 0)).2.2 = 0 ∨ (p.run rdS (t, 0)).2.2 = 2 ∨ (p.run rdS (t, 0)).2.2 = 3 := by
  induction p generalizing t with
  | ret a => exact .inl rfl
  | ask s n r k ih =>
    simp only [run, rdS, if_true]
    split
    · split
      · exact ih _ _
      · right; right; rw [rd_err _ _ (by decide)]
    · right; left; rw [rd_err _ _ (by decide)]
/-- What is behind is a rest of what was there. -/
theorem rd_len (p : Pg α) (t : List Bool × Int) : (p.run rdS t).2.1.length ≤ t.1.length := by
  induction p generalizing t with
  | ret a => exact Nat.le_refl _
  | ask s n r k ih =>
    rw [run_ask]
    refine Nat.le_trans (ih _ _) ?_
    unfold rdS
    repeat' split
    all_goals simp
theorem wr_mono (p : Pg α) (t : List Bool) (N : Nat) (h : (t ++ p.enc).length ≤ N) : p.All (fun u => u.length ≤ N) wrS t := by
  induction p generalizing t with
  | ret a => trivial
  | ask s n r k ih =>
    rw [enc] at h
    refine ⟨by rw [List.length_append] at h; omega, ih _ _ ?_⟩
    show (t ++ bitsN n r ++ (k n).enc).length ≤ N
    rw [List.append_assoc]; exact h
end Pg
end Go.Proofs.Ytkmiogaklmgnkaa
