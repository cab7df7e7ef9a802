/- Layer 5 (message): messages, and rows of them, as programs; what is right; what is read of what was written, and the other way round. No program of Go. -/
import Derived.Test.YtkmiogaklmgnkaaMsM
namespace Go.Proofs.Ytkmiogaklmgnkaa
open Pg
set_option linter.unusedVariables false

@[ext] structure V3 where
  x : Int
  y : Int
  z : Int
deriving DecidableEq
@[ext] structure Cm where
  seq : Int
  but : Int
  dx : Int
  dy : Int
  tk : Int
deriving DecidableEq
/-- A message. -/
@[ext] structure Msg where
  kind : Int
  seq : Int
  cmd : Cm
  prov : Int
  id : Int
  shot : Int
  dir : V3
  why : Int
  pos : V3
  vel : V3
  tick : Int
  base : Int
  bytes : List Nat
deriving DecidableEq
def v0 : V3 := ⟨0, 0, 0⟩
def c0 : Cm := ⟨0, 0, 0, 0, 0⟩
/-- A message of a kind, and nothing else. -/
def bare (k : Int) : Msg := ⟨k, 0, c0, 0, 0, 0, v0, 0, v0, v0, 0, 0, []⟩
abbrev uns (k : Nat) (h : k ≤ 62 := by decide) : Rm := ⟨k, 0, 2 ^ k - 1, h⟩
abbrev sgd (k : Nat) (h : k ≤ 62 := by decide) : Rm := ⟨k, -2 ^ (k - 1), 2 ^ (k - 1) - 1, h⟩
abbrev rKind : Rm := ⟨4, 1, 9, by decide⟩
abbrev rShot : Rm := ⟨1, 0, 1, by decide⟩
abbrev rDir : Rm := ⟨18, -65536, 65536, by decide⟩
abbrev rID : Rm := ⟨31, 1, 2147483647, by decide⟩
abbrev rWhy : Rm := ⟨4, 1, 10, by decide⟩
abbrev rTk : Rm := ⟨3, 0, 7, by decide⟩
abbrev rCnt : Rm := ⟨5, 0, 16, by decide⟩
def vecP (v : V3) (r : Rm) : Pg V3 := .ask true v.x r fun a => .ask true v.y r fun b => .ask true v.z r fun c => .ret ⟨a, b, c⟩
def cmdP (c : Cm) : Pg Cm := .ask false c.seq (uns 16) fun a => .ask false c.but (uns 2) fun b => .ask true c.dx (sgd 8) fun d => .ask true c.dy (sgd 8) fun e =>
  .ask false (Go.RowKit.wrap64 (c.tk - 1)) rTk fun t => .ret ⟨a, b, d, e, Go.RowKit.wrap64 (t + 1)⟩
def loadGo : List Nat → Nat → List Nat → Pg (List Nat)
  | _, 0, acc => .ret acc
  | bs, k + 1, acc => .ask false (bs.headD 0 : Nat) (uns 8) fun x => loadGo bs.tail k (acc ++ [x.toNat])
def loadP (bs : List Nat) : Pg (List Nat) := .ask false (bs.length : Nat) (uns 10) fun n => loadGo bs n.toNat []
/-- What is carried of a kind. -/
def fieldsP (m : Msg) (k : Int) : Pg Msg :=
  if k = 2 then (cmdP m.cmd).bind fun c => .ret { bare k with cmd := c }
  else if k = 3 then .ask false m.prov (uns 16) fun p => .ask false m.shot rShot fun s => (vecP m.dir rDir).bind fun d => .ret { bare k with prov := p, shot := s, dir := d }
  else if k = 6 then .ask false m.seq (uns 16) fun q => (vecP m.pos (sgd 32)).bind fun p => (vecP m.vel (sgd 32)).bind fun v => .ret { bare k with seq := q, pos := p, vel := v }
  else if k = 7 then .ask false m.prov (uns 16) fun p => .ask false m.id rID fun i => .ret { bare k with prov := p, id := i }
  else if k = 5 then .ask false m.id rID fun i => .ret { bare k with id := i }
  else if k = 8 then .ask false m.prov (uns 16) fun p => .ask false m.why rWhy fun y => .ret { bare k with prov := p, why := y }
  else if k = 9 then .ask false m.tick (uns 32) fun t => .ask false m.base (uns 32) fun b => (loadP m.bytes).bind fun l => .ret { bare k with tick := t, base := b, bytes := l }
  else .ret (bare k)
def carr (m : Msg) : Pg Msg := .ask false m.kind rKind fun k => fieldsP m k
def seqGo : List Msg → Nat → List Msg → Pg (List Msg)
  | _, 0, acc => .ret acc
  | ms, k + 1, acc => (carr (ms.headD (bare 0))).bind fun m => seqGo ms.tail k (acc ++ [m])
def allP (ms : List Msg) : Pg (List Msg) := .ask false (ms.length : Nat) rCnt fun n => seqGo ms n.toNat []

theorem vecP_fit (v : V3) (r : Rm) (h : r.fits true) : (vecP v r).fit := ⟨h, fun _ => ⟨h, fun _ => ⟨h, fun _ => trivial⟩⟩⟩
theorem cmdP_fit (c : Cm) : (cmdP c).fit := ⟨by decide, fun _ => ⟨by decide, fun _ => ⟨by decide, fun _ => ⟨by decide, fun _ => ⟨by decide, fun _ => trivial⟩⟩⟩⟩⟩
theorem loadGo_fit (bs : List Nat) (k : Nat) (acc : List Nat) : (loadGo bs k acc).fit := by
  induction k generalizing bs acc with
  | zero => trivial
  | succ k ih => exact ⟨by decide, fun x => ih _ _⟩
theorem loadP_fit (bs : List Nat) : (loadP bs).fit := ⟨by decide, fun _ => loadGo_fit _ _ _⟩
theorem fieldsP_fit (m : Msg) (k : Int) : (fieldsP m k).fit := by
  unfold fieldsP
  split
  · exact fit_bind _ _ (cmdP_fit _) fun _ => trivial
  split
  · exact ⟨by decide, fun _ => ⟨by decide, fun _ => fit_bind _ _ (vecP_fit _ _ (by decide)) fun _ => trivial⟩⟩
  split
  · exact ⟨by decide, fun _ => fit_bind _ _ (vecP_fit _ _ (by decide)) fun _ => fit_bind _ _ (vecP_fit _ _ (by decide)) fun _ => trivial⟩
  split
  · exact ⟨by decide, fun _ => ⟨by decide, fun _ => trivial⟩⟩
  split
  · exact ⟨by decide, fun _ => trivial⟩
  split
  · exact ⟨by decide, fun _ => ⟨by decide, fun _ => trivial⟩⟩
  split
  · exact ⟨by decide, fun _ => ⟨by decide, fun _ => fit_bind _ _ (loadP_fit _) fun _ => trivial⟩⟩
  · trivial
theorem carr_fit (m : Msg) : (carr m).fit := ⟨by decide, fun _ => fieldsP_fit _ _⟩
theorem vecP_sh (v v' : V3) (r : Rm) : Sh (vecP v r) (vecP v' r) := ⟨rfl, rfl, fun _ => ⟨rfl, rfl, fun _ => ⟨rfl, rfl, fun _ => rfl⟩⟩⟩
theorem cmdP_sh (c c' : Cm) : Sh (cmdP c) (cmdP c') := ⟨rfl, rfl, fun _ => ⟨rfl, rfl, fun _ => ⟨rfl, rfl, fun _ => ⟨rfl, rfl, fun _ => ⟨rfl, rfl, fun _ => rfl⟩⟩⟩⟩⟩
theorem loadGo_sh (bs bs' : List Nat) (k : Nat) (acc : List Nat) : Sh (loadGo bs k acc) (loadGo bs' k acc) := by
  induction k generalizing bs bs' acc with
  | zero => rfl
  | succ k ih => exact ⟨rfl, rfl, fun x => ih _ _ _⟩
theorem loadP_sh (bs bs' : List Nat) : Sh (loadP bs) (loadP bs') := ⟨rfl, rfl, fun _ => loadGo_sh _ _ _ _⟩
theorem fieldsP_sh (m m' : Msg) (k : Int) : Sh (fieldsP m k) (fieldsP m' k) := by
  unfold fieldsP
  split
  · exact sh_bind (cmdP_sh _ _) fun _ => rfl
  split
  · exact ⟨rfl, rfl, fun _ => ⟨rfl, rfl, fun _ => sh_bind (vecP_sh _ _ _) fun _ => rfl⟩⟩
  split
  · exact ⟨rfl, rfl, fun _ => sh_bind (vecP_sh _ _ _) fun _ => sh_bind (vecP_sh _ _ _) fun _ => rfl⟩
  split
  · exact ⟨rfl, rfl, fun _ => ⟨rfl, rfl, fun _ => rfl⟩⟩
  split
  · exact ⟨rfl, rfl, fun _ => rfl⟩
  split
  · exact ⟨rfl, rfl, fun _ => ⟨rfl, rfl, fun _ => rfl⟩⟩
  split
  · exact ⟨rfl, rfl, fun _ => ⟨rfl, rfl, fun _ => sh_bind (loadP_sh _ _) fun _ => rfl⟩⟩
  · exact rfl
theorem carr_sh (m m' : Msg) : Sh (carr m) (carr m') := ⟨rfl, rfl, fun _ => fieldsP_sh _ _ _⟩
theorem seqGo_sh (ms ms' : List Msg) (k : Nat) (acc : List Msg) : Sh (seqGo ms k acc) (seqGo ms' k acc) := by
  induction k generalizing ms ms' acc with
  | zero => rfl
  | succ k ih => exact sh_bind (carr_sh _ _) fun m => ih _ _ _
theorem allP_sh (ms ms' : List Msg) : Sh (allP ms) (allP ms') := ⟨rfl, rfl, fun _ => seqGo_sh _ _ _ _⟩
/-- A message is right. -/
def Rgt (m : Msg) : Prop := (carr m).valid ∧ (carr m).val = m
theorem loadGo_val (bs : List Nat) (k : Nat) (acc : List Nat) (hk : k = bs.length) : (loadGo bs k acc).val = acc ++ bs := by
  induction k generalizing bs acc with
  | zero => rw [List.length_eq_zero_iff.1 hk.symm]; simp [loadGo, Pg.val]
  | succ k ih =>
    cases bs with
    | nil => simp at hk
    | cons b bs => simp only [loadGo, Pg.val, List.headD_cons, List.tail_cons, Int.toNat_natCast]; rw [ih bs _ (by simpa using hk)]; simp
theorem seqGo_val (ms : List Msg) (k : Nat) (acc : List Msg) (hk : k = ms.length) (hr : ∀ m ∈ ms, Rgt m) : (seqGo ms k acc).val = acc ++ ms ∧ (seqGo ms k acc).valid ∧ (seqGo ms k acc).enc = ms.flatMap fun m => (carr m).enc := by
  induction k generalizing ms acc with
  | zero => rw [List.length_eq_zero_iff.1 hk.symm]; simp [seqGo, Pg.val, Pg.valid, Pg.enc]
  | succ k ih =>
    cases ms with
    | nil => simp at hk
    | cons b bs =>
      have hb := hr b (by simp)
      obtain ⟨h1, h2, h3⟩ := ih bs (acc ++ [b]) (by simpa using hk) (fun m hm => hr m (by simp [hm]))
      simp only [seqGo, List.headD_cons, List.tail_cons, val_bind, valid_bind, enc_bind, hb.2, h1, h3, List.flatMap_cons]
      exact ⟨by simp, ⟨hb.1, h2⟩, trivial⟩
theorem allP_val {ms : List Msg} (hl : ms.length ≤ 16) (hr : ∀ m ∈ ms, Rgt m) : (allP ms).val = ms ∧ (allP ms).valid ∧ (allP ms).enc = bitsN (ms.length : Nat) rCnt ++ ms.flatMap fun m => (carr m).enc := by
  obtain ⟨h1, h2, h3⟩ := seqGo_val ms ms.length [] rfl hr
  refine ⟨?_, ⟨⟨⟨?_, ?_⟩, by decide⟩, ?_⟩, ?_⟩
  · show (seqGo ms ((ms.length : Nat) : Int).toNat []).val = ms
    rw [Int.toNat_natCast, h1]; rfl
  · simp
  · show ((ms.length : Nat) : Int) ≤ 16; omega
  · show (seqGo ms ((ms.length : Nat) : Int).toNat []).valid
    rw [Int.toNat_natCast]; exact h2
  · show _ ++ (seqGo ms ((ms.length : Nat) : Int).toNat []).enc = _
    rw [Int.toNat_natCast, h3]
/-- Written, and read. -/
theorem all_back {ms : List Msg} (hl : ms.length ≤ 16) (hr : ∀ m ∈ ms, Rgt m) (t : List Bool) : (allP []).run rdS ((allP ms).enc ++ t, 0) = (ms, (t, 0)) := by
  obtain ⟨h1, h2, _⟩ := allP_val hl hr
  rw [rd_enc (allP_sh [] ms) h2, h1]
theorem all_cut {ms : List Msg} (hl : ms.length ≤ 16) (hr : ∀ m ∈ ms, Rgt m) {t u : List Bool} (hp : t ++ u = (allP ms).enc) (hu : u ≠ []) : ((allP []).run rdS (t, 0)).2.2 = 2 :=
  rd_cut (allP_sh [] ms) (allP_val hl hr).2.1 hp hu
theorem wrap_id {x : Int} (h1 : -9223372036854775808 ≤ x) (h2 : x ≤ 9223372036854775807) : Go.RowKit.wrap64 x = x := Go.IntWalk.wrap64_in x ⟨h1, h2⟩
theorem load_read (k : Nat) (bs acc : List Nat) {a : List Nat} {t t' : List Bool} (h : (loadGo bs k acc).run rdS (t, 0) = (a, (t', 0))) :
    ∃ l : List Nat, a = acc ++ l ∧ l.length = k ∧ ∀ acc', (loadGo l k acc').valid ∧ t = (loadGo l k acc').enc ++ t' := by
  induction k generalizing bs acc t with
  | zero => cases h; exact ⟨[], by simp, rfl, fun acc' => ⟨trivial, rfl⟩⟩
  | succ k ih =>
    replace h := rd_ask (by decide) h
    obtain ⟨x, t1, hx, rfl, h⟩ := h
    obtain ⟨l, rfl, hl, hv⟩ := ih _ _ h
    have hx0 : ((x.toNat : Nat) : Int) = x := Int.toNat_of_nonneg hx.1
    refine ⟨x.toNat :: l, by simp, by simp [hl], fun acc' => ?_⟩
    have hv' := hv (acc' ++ [x.toNat])
    simp only [loadGo, List.headD_cons, List.tail_cons, Pg.valid, Pg.enc, hx0, List.append_assoc]
    rw [← hv'.2]
    exact ⟨⟨⟨hx, by decide⟩, hv'.1⟩, rfl⟩
/-- What was read well is right, and was written so. -/
theorem carr_read (m0 : Msg) {a : Msg} {t t' : List Bool} (h : (carr m0).run rdS (t, 0) = (a, (t', 0))) : Rgt a ∧ t = (carr a).enc ++ t' := by
  replace h := rd_ask (by decide) h
  obtain ⟨k, t1, hk, rfl, h⟩ := h
  have hk' : k = 1 ∨ k = 2 ∨ k = 3 ∨ k = 4 ∨ k = 5 ∨ k = 6 ∨ k = 7 ∨ k = 8 ∨ k = 9 := by have := hk.1; have := hk.2; simp only [] at *; omega
  rcases hk' with rfl | rfl | rfl | rfl | rfl | rfl | rfl | rfl | rfl
  · cases h; exact ⟨⟨⟨⟨hk, by decide⟩, trivial⟩, rfl⟩, rfl⟩
  · simp only [fieldsP, cmdP, Pg.bind, reduceIte] at h
    replace h := rd_ask (by decide) h
    obtain ⟨x1, t1, h1, rfl, h⟩ := h
    replace h := rd_ask (by decide) h
    obtain ⟨x2, t1, h2, rfl, h⟩ := h
    replace h := rd_ask (by decide) h
    obtain ⟨x3, t1, h3, rfl, h⟩ := h
    replace h := rd_ask (by decide) h
    obtain ⟨x4, t1, h4, rfl, h⟩ := h
    replace h := rd_ask (by decide) h
    obtain ⟨x5, t1, h5, rfl, h⟩ := h
    cases h
    have h51 : 0 ≤ x5 ∧ x5 ≤ 7 := h5
    have e1 : Go.RowKit.wrap64 (x5 + 1) = x5 + 1 := wrap_id (by omega) (by omega)
    have e2 : Go.RowKit.wrap64 (x5 + 1 - 1) = x5 := by rw [Int.add_sub_cancel]; exact wrap_id (by omega) (by omega)
    refine ⟨⟨⟨⟨hk, by decide⟩, ?_⟩, ?_⟩, ?_⟩
    · simp only [fieldsP, cmdP, Pg.bind, bare, e1, e2, reduceIte, Pg.valid]
      exact ⟨⟨h1, by decide⟩, ⟨h2, by decide⟩, ⟨h3, by decide⟩, ⟨h4, by decide⟩, ⟨h5, by decide⟩, trivial⟩
    · simp only [carr, fieldsP, cmdP, Pg.bind, bare, e1, e2, reduceIte, Pg.val]
    · simp only [carr, fieldsP, cmdP, Pg.bind, bare, e1, e2, reduceIte, Pg.enc, List.append_assoc, List.nil_append]
  · simp only [fieldsP, vecP, Pg.bind, reduceIte, show ¬ (3 : Int) = 2 by decide] at h
    replace h := rd_ask (by decide) h
    obtain ⟨x1, t1, h1, rfl, h⟩ := h
    replace h := rd_ask (by decide) h
    obtain ⟨x2, t1, h2, rfl, h⟩ := h
    replace h := rd_ask (by decide) h
    obtain ⟨x3, t1, h3, rfl, h⟩ := h
    replace h := rd_ask (by decide) h
    obtain ⟨x4, t1, h4, rfl, h⟩ := h
    replace h := rd_ask (by decide) h
    obtain ⟨x5, t1, h5, rfl, h⟩ := h
    cases h
    refine ⟨⟨⟨⟨hk, by decide⟩, ⟨h1, by decide⟩, ⟨h2, by decide⟩, ⟨h3, by decide⟩, ⟨h4, by decide⟩, ⟨h5, by decide⟩, trivial⟩, rfl⟩, ?_⟩
    simp [carr, fieldsP, vecP, Pg.bind, bare, Pg.enc, List.append_assoc]
  · cases h; exact ⟨⟨⟨⟨hk, by decide⟩, trivial⟩, rfl⟩, rfl⟩
  · simp only [fieldsP, reduceIte, show ¬ (5 : Int) = 2 by decide, show ¬ (5 : Int) = 3 by decide, show ¬ (5 : Int) = 6 by decide, show ¬ (5 : Int) = 7 by decide] at h
    replace h := rd_ask (by decide) h
    obtain ⟨x1, t1, h1, rfl, h⟩ := h
    cases h
    refine ⟨⟨⟨⟨hk, by decide⟩, ⟨h1, by decide⟩, trivial⟩, rfl⟩, ?_⟩
    simp [carr, fieldsP, bare, Pg.enc]
  · simp only [fieldsP, vecP, Pg.bind, reduceIte, show ¬ (6 : Int) = 2 by decide, show ¬ (6 : Int) = 3 by decide] at h
    replace h := rd_ask (by decide) h
    obtain ⟨x1, t1, h1, rfl, h⟩ := h
    replace h := rd_ask (by decide) h
    obtain ⟨x2, t1, h2, rfl, h⟩ := h
    replace h := rd_ask (by decide) h
    obtain ⟨x3, t1, h3, rfl, h⟩ := h
    replace h := rd_ask (by decide) h
    obtain ⟨x4, t1, h4, rfl, h⟩ := h
    replace h := rd_ask (by decide) h
    obtain ⟨x5, t1, h5, rfl, h⟩ := h
    replace h := rd_ask (by decide) h
    obtain ⟨x6, t1, h6, rfl, h⟩ := h
    replace h := rd_ask (by decide) h
    obtain ⟨x7, t1, h7, rfl, h⟩ := h
    cases h
    refine ⟨⟨⟨⟨hk, by decide⟩, ⟨h1, by decide⟩, ⟨h2, by decide⟩, ⟨h3, by decide⟩, ⟨h4, by decide⟩, ⟨h5, by decide⟩, ⟨h6, by decide⟩, ⟨h7, by decide⟩, trivial⟩, rfl⟩, ?_⟩
    simp [carr, fieldsP, vecP, Pg.bind, bare, Pg.enc, List.append_assoc]
  · simp only [fieldsP, reduceIte, show ¬ (7 : Int) = 2 by decide, show ¬ (7 : Int) = 3 by decide, show ¬ (7 : Int) = 6 by decide] at h
    replace h := rd_ask (by decide) h
    obtain ⟨x1, t1, h1, rfl, h⟩ := h
    replace h := rd_ask (by decide) h
    obtain ⟨x2, t1, h2, rfl, h⟩ := h
    cases h
    refine ⟨⟨⟨⟨hk, by decide⟩, ⟨h1, by decide⟩, ⟨h2, by decide⟩, trivial⟩, rfl⟩, ?_⟩
    simp [carr, fieldsP, bare, Pg.enc, List.append_assoc]
  · simp only [fieldsP, reduceIte, show ¬ (8 : Int) = 2 by decide, show ¬ (8 : Int) = 3 by decide, show ¬ (8 : Int) = 6 by decide, show ¬ (8 : Int) = 7 by decide, show ¬ (8 : Int) = 5 by decide] at h
    replace h := rd_ask (by decide) h
    obtain ⟨x1, t1, h1, rfl, h⟩ := h
    replace h := rd_ask (by decide) h
    obtain ⟨x2, t1, h2, rfl, h⟩ := h
    cases h
    refine ⟨⟨⟨⟨hk, by decide⟩, ⟨h1, by decide⟩, ⟨h2, by decide⟩, trivial⟩, rfl⟩, ?_⟩
    simp [carr, fieldsP, bare, Pg.enc, List.append_assoc]
  · simp only [fieldsP, Pg.bind, loadP, reduceIte, show ¬ (9 : Int) = 2 by decide, show ¬ (9 : Int) = 3 by decide, show ¬ (9 : Int) = 6 by decide, show ¬ (9 : Int) = 7 by decide, show ¬ (9 : Int) = 5 by decide, show ¬ (9 : Int) = 8 by decide] at h
    replace h := rd_ask (by decide) h
    obtain ⟨x1, t1, h1, rfl, h⟩ := h
    replace h := rd_ask (by decide) h
    obtain ⟨x2, t1, h2, rfl, h⟩ := h
    replace h := rd_ask (by decide) h
    obtain ⟨x3, t1, h3, rfl, h⟩ := h
    rw [run_bind] at h
    generalize hq : (loadGo m0.bytes x3.toNat []).run rdS (t1, 0) = q at h
    obtain ⟨l', t2, e2⟩ := q
    simp only [run] at h
    injection h with ha he
    injection he with ht he
    subst ha ht he
    obtain ⟨l, hl0, hl, hv⟩ := load_read _ _ _ hq
    have hl1 : l = l' := hl0.symm
    subst hl1
    clear hl0
    obtain ⟨hv1, rfl⟩ := hv []
    have hx : x3 = ((l.length : Nat) : Int) := by have : 0 ≤ x3 := h3.1; omega
    have hx2 : x3.toNat = l.length := by omega
    rw [hx2] at hv1 ⊢
    subst hx
    have hlv := loadGo_val l l.length [] rfl
    refine ⟨⟨⟨⟨hk, by decide⟩, ⟨h1, by decide⟩, ⟨h2, by decide⟩, ?_⟩, ?_⟩, ?_⟩
    · show ((loadP l).bind _).valid
      rw [valid_bind]
      exact ⟨⟨⟨h3, by decide⟩, by simp only [Int.toNat_natCast]; exact hv1⟩, trivial⟩
    · show ((loadP l).bind _).val = _
      rw [val_bind]
      simp only [loadP, Pg.val, Int.toNat_natCast, hlv, List.nil_append]
      rfl
    · show _ = (bitsN _ _ ++ (bitsN _ _ ++ (bitsN _ _ ++ ((loadP l).bind _).enc))) ++ _
      rw [enc_bind]
      simp only [loadP, Pg.enc, Int.toNat_natCast, List.append_assoc, List.nil_append, bare]
theorem seq_read (k : Nat) (ms acc : List Msg) {a : List Msg} {t t' : List Bool} (h : (seqGo ms k acc).run rdS (t, 0) = (a, (t', 0))) :
    ∃ l : List Msg, a = acc ++ l ∧ l.length = k ∧ (∀ m ∈ l, Rgt m) ∧ t = (l.flatMap fun m => (carr m).enc) ++ t' := by
  induction k generalizing ms acc t with
  | zero => cases h; exact ⟨[], by simp, rfl, by simp, rfl⟩
  | succ k ih =>
    rw [seqGo, run_bind] at h
    generalize hq : (carr (ms.headD (bare 0))).run rdS (t, 0) = q at h
    obtain ⟨m, t2, e2⟩ := q
    by_cases he : e2 = 0
    · subst he
      obtain ⟨hm, rfl⟩ := carr_read _ hq
      obtain ⟨l, rfl, hl, hr, rfl⟩ := ih _ _ h
      exact ⟨m :: l, by simp, by simp [hl], by simpa using ⟨hm, hr⟩, by simp⟩
    · have := congrArg (fun x => x.2.2) h
      rw [rd_err _ _ he] at this
      exact (he this).elim
theorem all_read {ms : List Msg} {a : List Msg} {t t' : List Bool} (h : (allP ms).run rdS (t, 0) = (a, (t', 0))) : a.length ≤ 16 ∧ (∀ m ∈ a, Rgt m) ∧ t = (allP a).enc ++ t' := by
  replace h := rd_ask (by decide) h
  obtain ⟨x, t1, hx, rfl, h⟩ := h
  obtain ⟨l, hl0, hl, hr, rfl⟩ := seq_read _ _ _ h
  have hl1 : l = a := hl0.symm
  subst hl1
  have hx1 : 0 ≤ x ∧ x ≤ 16 := hx
  have hx2 : x = ((l.length : Nat) : Int) := by omega
  have h16 : l.length ≤ 16 := by omega
  refine ⟨h16, hr, ?_⟩
  rw [(allP_val h16 hr).2.2, hx2, List.append_assoc]
end Go.Proofs.Ytkmiogaklmgnkaa
