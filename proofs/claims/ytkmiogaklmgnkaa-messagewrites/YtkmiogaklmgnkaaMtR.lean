/- Layer 5 (message): what a right message is, written out. No program of Go. -/
import Derived.Test.YtkmiogaklmgnkaaMsO
namespace Go.Proofs.Ytkmiogaklmgnkaa
open Go.RowKit Go.Shelf Pg
set_option linter.unusedVariables false
set_option linter.unusedSimpArgs false

/-- A message with the fields of its kind alone. -/
def onlyM (m : Msg) : Msg :=
  if m.kind = 2 then { bare 2 with cmd := m.cmd }
  else if m.kind = 3 then { bare 3 with prov := m.prov, shot := m.shot, dir := m.dir }
  else if m.kind = 5 then { bare 5 with id := m.id }
  else if m.kind = 6 then { bare 6 with seq := m.seq, pos := m.pos, vel := m.vel }
  else if m.kind = 7 then { bare 7 with prov := m.prov, id := m.id }
  else if m.kind = 8 then { bare 8 with prov := m.prov, why := m.why }
  else if m.kind = 9 then { bare 9 with tick := m.tick, base := m.base, bytes := m.bytes }
  else bare m.kind
def V3.in (v : V3) (a b : Int) : Prop := (a ≤ v.x ∧ v.x ≤ b) ∧ (a ≤ v.y ∧ v.y ≤ b) ∧ (a ≤ v.z ∧ v.z ≤ b)
instance (v : V3) (a b : Int) : Decidable (v.in a b) := by unfold V3.in; exact inferInstance
/-- Each field as it may be. -/
def fieldsOk (m : Msg) : Prop :=
  if m.kind = 2 then m.cmd.but < 4 ∧ 1 ≤ m.cmd.tk ∧ m.cmd.tk ≤ 8
  else if m.kind = 3 then (m.shot = 0 ∨ m.shot = 1) ∧ m.dir.in (-65536) 65536
  else if m.kind = 5 then 1 ≤ m.id ∧ m.id ≤ 2147483647
  else if m.kind = 6 then m.pos.in (-2147483648) 2147483647 ∧ m.vel.in (-2147483648) 2147483647
  else if m.kind = 7 then 1 ≤ m.id ∧ m.id ≤ 2147483647
  else if m.kind = 8 then 1 ≤ m.why ∧ m.why ≤ 10
  else if m.kind = 9 then m.bytes.length ≤ 1023
  else True
instance (m : Msg) : Decidable (fieldsOk m) := by unfold fieldsOk; exact inferInstance
theorem loadGo_valid (bs : List Nat) (k : Nat) (acc : List Nat) (hk : k = bs.length) (hb : ∀ y ∈ bs, y < 256) : (loadGo bs k acc).valid := by
  induction k generalizing bs acc with
  | zero => trivial
  | succ k ih =>
    cases bs with
    | nil => simp at hk
    | cons b bs =>
      have h1 := hb b (by simp)
      refine ⟨⟨⟨?_, ?_⟩, by decide⟩, ?_⟩
      · simp
      · simp only [List.headD_cons]; show ((b : Nat) : Int) ≤ 2 ^ 8 - 1; omega
      · simp only [List.headD_cons, List.tail_cons]
        exact ih bs _ (by simpa using hk) (fun y hy => hb y (by simp [hy]))
theorem has_uns {k : Nat} {h : k ≤ 62} {n : Int} : (uns k h).has n ↔ 0 ≤ n ∧ n ≤ 2 ^ k - 1 := Iff.rfl
theorem has_sgd {k : Nat} {h : k ≤ 62} {n : Int} : (sgd k h).has n ↔ -2 ^ (k - 1) ≤ n ∧ n ≤ 2 ^ (k - 1) - 1 := Iff.rfl
theorem vecP_valid (v : V3) (r : Rm) (hf : r.fits true) : (vecP v r).valid ↔ v.in r.least r.most := by
  unfold vecP V3.in
  simp only [Pg.valid, Rm.has]
  exact ⟨fun h => ⟨h.1.1, h.2.1.1, h.2.2.1.1⟩, fun h => ⟨⟨h.1, hf⟩, ⟨h.2.1, hf⟩, ⟨h.2.2, hf⟩, trivial⟩⟩
theorem vecP_val (v : V3) (r : Rm) : (vecP v r).val = v := rfl
theorem carr_valid (m : Msg) : (carr m).valid ↔ (1 ≤ m.kind ∧ m.kind ≤ 9) ∧ (fieldsP m m.kind).valid := by
  unfold carr
  simp only [Pg.valid]
  exact ⟨fun h => ⟨h.1.1, h.2⟩, fun h => ⟨⟨h.1, by decide⟩, h.2⟩⟩
theorem carr_val (m : Msg) : (carr m).val = (fieldsP m m.kind).val := rfl
theorem wrap_one {t : Int} (h0 : 0 ≤ Go.RowKit.wrap64 (t - 1)) (h7 : Go.RowKit.wrap64 (t - 1) ≤ 7) (h : Go.RowKit.wrap64 (Go.RowKit.wrap64 (t - 1) + 1) = t) : 1 ≤ t ∧ t ≤ 8 := by
  rw [wrap_id (by omega) (by omega)] at h; omega
theorem rgt_iff {m : Msg} (hok : MOk m) : Rgt m ↔ m = onlyM m ∧ (1 ≤ m.kind ∧ m.kind ≤ 9) ∧ fieldsOk m := by
  unfold Rgt
  rw [carr_valid, carr_val]
  by_cases hk : 1 ≤ m.kind ∧ m.kind ≤ 9
  rotate_left
  · constructor
    · intro h; exact (hk h.1.1).elim
    · intro h; exact (hk h.2.1).elim
  have hk9 : m.kind = 1 ∨ m.kind = 2 ∨ m.kind = 3 ∨ m.kind = 4 ∨ m.kind = 5 ∨ m.kind = 6 ∨ m.kind = 7 ∨ m.kind = 8 ∨ m.kind = 9 := by omega
  simp only [hk, true_and]
  rcases hk9 with e | e | e | e | e | e | e | e | e
  · unfold onlyM fieldsOk fieldsP
    simp only [e, Int.reduceEq, if_false, Pg.valid, Pg.val, true_and, and_true]
    exact eq_comm
  · unfold onlyM fieldsOk fieldsP
    simp only [e, if_true, Pg.valid_bind, Pg.val_bind, Pg.valid, Pg.val, and_true, cmdP]
    have h1 := hok.cseq; have h2 := hok.but; have h3 := hok.dx; have h4 := hok.dy
    constructor
    · rintro ⟨⟨_, ⟨⟨_, b⟩, _⟩, _, _, ⟨⟨c, d⟩, _⟩⟩, hv⟩
      have ht := congrArg (fun m : Msg => m.cmd.tk) hv
      simp only at ht
      have h18 := wrap_one c d ht
      have hcm : (⟨m.cmd.seq, m.cmd.but, m.cmd.dx, m.cmd.dy, Go.RowKit.wrap64 (Go.RowKit.wrap64 (m.cmd.tk - 1) + 1)⟩ : Cm) = m.cmd := by rw [ht]
      rw [hcm] at hv
      refine ⟨hv.symm, ?_, h18⟩
      have : m.cmd.but ≤ 3 := b
      omega
    · rintro ⟨hv, h5, h6, h7⟩
      have w1 : Go.RowKit.wrap64 (m.cmd.tk - 1) = m.cmd.tk - 1 := wrap_id (by omega) (by omega)
      have w2 : Go.RowKit.wrap64 (m.cmd.tk - 1 + 1) = m.cmd.tk := by rw [show m.cmd.tk - 1 + 1 = m.cmd.tk by omega]; exact wrap_id (by omega) (by omega)
      rw [w1, w2]
      refine ⟨⟨⟨?_, by decide⟩, ⟨?_, by decide⟩, ⟨?_, by decide⟩, ⟨?_, by decide⟩, ⟨?_, by decide⟩⟩, hv.symm⟩
      · exact ⟨h1.1, h1.2⟩
      · exact ⟨h2.1, show m.cmd.but ≤ 3 by omega⟩
      · exact ⟨h3.1, h3.2⟩
      · exact ⟨h4.1, h4.2⟩
      · exact ⟨show 0 ≤ m.cmd.tk - 1 by omega, show m.cmd.tk - 1 ≤ 7 by omega⟩
  · unfold onlyM fieldsOk fieldsP
    simp only [e, Int.reduceEq, if_false, if_true, Pg.valid_bind, Pg.val_bind, Pg.valid, Pg.val, and_true, vecP_valid _ _ (show rDir.fits true by decide), vecP_val]
    have h1 := hok.prov
    constructor
    · rintro ⟨⟨_, ⟨⟨a, b⟩, _⟩, c⟩, hv⟩
      have a' : 0 ≤ m.shot := a
      have b' : m.shot ≤ 1 := b
      exact ⟨hv.symm, by omega, c⟩
    · rintro ⟨hv, h5, h6⟩
      exact ⟨⟨⟨⟨h1.1, h1.2⟩, by decide⟩, ⟨⟨show 0 ≤ m.shot by omega, show m.shot ≤ 1 by omega⟩, by decide⟩, h6⟩, hv.symm⟩
  · unfold onlyM fieldsOk fieldsP
    simp only [e, Int.reduceEq, if_false, Pg.valid, Pg.val, true_and, and_true]
    exact eq_comm
  · unfold onlyM fieldsOk fieldsP
    simp only [e, Int.reduceEq, if_false, if_true, Pg.valid, Pg.val, and_true]
    exact ⟨fun h => ⟨h.2.symm, h.1.1⟩, fun h => ⟨⟨h.2, by decide⟩, h.1.symm⟩⟩
  · unfold onlyM fieldsOk fieldsP
    simp only [e, Int.reduceEq, if_false, if_true, Pg.valid_bind, Pg.val_bind, Pg.valid, Pg.val, and_true, vecP_valid _ _ (show (sgd 32).fits true by decide), vecP_val]
    have h1 := hok.seq
    exact ⟨fun h => ⟨h.2.symm, h.1.2⟩, fun h => ⟨⟨⟨⟨h1.1, h1.2⟩, by decide⟩, h.2⟩, h.1.symm⟩⟩
  · unfold onlyM fieldsOk fieldsP
    simp only [e, Int.reduceEq, if_false, if_true, Pg.valid, Pg.val, and_true]
    have h1 := hok.prov
    exact ⟨fun h => ⟨h.2.symm, h.1.2.1⟩, fun h => ⟨⟨⟨⟨h1.1, h1.2⟩, by decide⟩, ⟨h.2, by decide⟩⟩, h.1.symm⟩⟩
  · unfold onlyM fieldsOk fieldsP
    simp only [e, Int.reduceEq, if_false, if_true, Pg.valid, Pg.val, and_true]
    have h1 := hok.prov
    exact ⟨fun h => ⟨h.2.symm, h.1.2.1⟩, fun h => ⟨⟨⟨⟨h1.1, h1.2⟩, by decide⟩, ⟨h.2, by decide⟩⟩, h.1.symm⟩⟩
  · unfold onlyM fieldsOk fieldsP
    simp only [e, Int.reduceEq, if_false, if_true, Pg.valid_bind, Pg.val_bind, Pg.valid, Pg.val, and_true]
    have h1 := hok.tick; have h2 := hok.base
    have hlv : (loadP m.bytes).val = m.bytes := by
      unfold loadP
      simp only [Pg.val, Int.toNat_natCast]
      rw [loadGo_val _ _ _ rfl]; rfl
    rw [hlv]
    constructor
    · rintro ⟨⟨_, _, hl⟩, hv⟩
      unfold loadP at hl
      have : ((m.bytes.length : Nat) : Int) ≤ 1023 := hl.1.1.2
      exact ⟨hv.symm, by omega⟩
    · rintro ⟨hv, hl⟩
      refine ⟨⟨⟨⟨h1.1, h1.2⟩, by decide⟩, ⟨⟨h2.1, h2.2⟩, by decide⟩, ?_⟩, hv.symm⟩
      unfold loadP
      refine ⟨⟨⟨show (0 : Int) ≤ ((m.bytes.length : Nat) : Int) by omega, show ((m.bytes.length : Nat) : Int) ≤ 1023 by omega⟩, by decide⟩, ?_⟩
      simp only [Int.toNat_natCast]
      exact loadGo_valid _ _ _ rfl hok.byte
/-- Is it right? -/
theorem rgtB_is {m : Msg} (hok : MOk m) : rgtB m = decide (m = onlyM m ∧ (1 ≤ m.kind ∧ m.kind ≤ 9) ∧ fieldsOk m) := by
  cases h : rgtB m
  · exact (decide_eq_false (fun e => by rw [(rgtB_iff m).2 ((rgt_iff hok).2 e)] at h; cases h)).symm
  · exact (decide_eq_true ((rgt_iff hok).1 ((rgtB_iff m).1 h))).symm
end Go.Proofs.Ytkmiogaklmgnkaa
