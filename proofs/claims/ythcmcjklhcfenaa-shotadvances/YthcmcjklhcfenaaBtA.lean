/- Generic: frames, boxes, ranges over functions, arguments (of no layer's own). -/
import Derived.RangeFuncNested
import Derived.RangeFuncBound
import Derived.RangeFuncCalls
import Derived.RangeFuncLeaves
import Derived.Shelf.Abstract
import Derived.Shelf.RegionOpen
import Derived.WalkKit
import Derived.OwnWalkIn
import Derived.TacticsInMore
import Derived.LoopNIn
import Derived.LoopIn
import Derived.Test.YthcmcjklhcfenaaRgA
namespace Go.Proofs.Ythcmcjklhcfenaa
open Go.RowKit Go.Shelf
set_option linter.unusedVariables false

theorem hid {p : Prop} (h : p) : Hid p := h
theorem btrans {a b c : World} (h : Below a.heap.size a b) (k : Below b.heap.size b c) : Below a.heap.size a c := h.trans (k.mono h.size)
/-- Of what are cells, only blocks of X have turned. -/
structure Kc (X : Nat → Prop) (A B : World) : Prop where
  size : A.heap.size ≤ B.heap.size
  same : ∀ k o, A.heap[k]? = some o → o.isCells = true → ¬ X k → B.heap[k]? = some o
theorem Kc.refl (X : Nat → Prop) (A : World) : Kc X A A := ⟨Nat.le_refl _, fun _ _ h _ _ => h⟩
theorem Kc.trans {X : Nat → Prop} {A B C : World} (h : Kc X A B) (k : Kc X B C) : Kc X A C := ⟨Nat.le_trans h.size k.size, fun i o hi ho hx => k.same i o (h.same i o hi ho hx) ho hx⟩
theorem Kc.putObj {X : Nat → Prop} (B0 : Nat) : ∀ (W : World) (l : Nat) (o o' : Obj), B0 ≤ l → W.heap[l]? = some o → o.isCells = false → o.isWalk = false → Kc X W (W.putObj l o') := by
  intro W l o o' _ hl ho _
  refine ⟨by simp, fun k p hk hp _ => ?_⟩
  by_cases e : k = l
  · subst e; rw [hl] at hk; cases hk; rw [ho] at hp; cases hp
  · rw [World.putObj_heap_other e]; exact hk
theorem Kc.of_fr {X : Nat → Prop} {A B : World} (h : Fr X A B) : Kc X A B :=
  ⟨h.size, fun k o hk _ hx => (h.block k (Array.getElem?_eq_some_iff.1 hk).1 hx).trans hk⟩
theorem Kc.of_grown {A B : World} {r : Option Nat} (hg : A.grownBy B r) (hr : ∀ k, r = some k → ∃ o : Obj, A.heap[k]? = some o ∧ o.isCells = false) (X : Nat → Prop) : Kc X A B := by
  refine ⟨hg.size, fun k o hk ho _ => ?_⟩
  rw [hg.block k (Array.getElem?_eq_some_iff.1 hk).1 (fun e => ?_)]
  · exact hk
  · obtain ⟨o', h1, h2⟩ := hr k e.symm
    rw [h1] at hk; cases hk; rw [h2] at ho; cases ho
theorem Kc.cell {X : Nat → Prop} {A B : World} (h : Kc X A B) {b o : Nat} {v : Value} (hc : A.cell? ⟨b, o, none⟩ = some v) (hx : ¬ X b) : B.cell? ⟨b, o, none⟩ = some v := by
  unfold World.cell? at hc ⊢
  cases hb : A.heap[b]? with
  | none => simp [hb] at hc
  | some p =>
    cases p with
    | cells c e f => rw [h.same b _ hb rfl hx]; simpa [hb] using hc
    | _ => simp [hb] at hc
theorem Kc.frozen {X : Nat → Prop} {A B : World} (h : Kc X A B) {b o : Nat} {v : Value} (hc : A.cell? ⟨b, o, none⟩ = some v) (hf : A.frozen? ⟨b, o, none⟩ = false) (hx : ¬ X b) : B.frozen? ⟨b, o, none⟩ = false := by
  unfold World.cell? at hc
  unfold World.frozen? at hf ⊢
  cases hb : A.heap[b]? with
  | none => simp [hb] at hc
  | some p =>
    cases p with
    | cells c e f => rw [h.same b _ hb rfl hx]; simpa [hb] using hf
    | _ => simp [hb] at hc
/-- What abides turns of blocks that are no cells is one's own. -/
theorem own_of_kc {β : Type} {B : Nat} {I : β → World → Prop} (h : ∀ s A C, I s A → Kc (fun _ => False) A C → I s C) : OwnFrom B I :=
  fun s W W' row hs hg hr => h s W W' hs (Kc.of_grown hg (fun k e => (hr k e).2) _)

/-- A variable in a box of its own. -/
structure Vr (W : World) (b : Nat) (t : TypeId) (v : Value) : Prop where
  obj : W.heap[b]? = some (.cells #[v] t (0, 0))
theorem Vr.cell {W : World} {b : Nat} {t : TypeId} {v : Value} (h : Vr W b t v) : W.cell? ⟨b, 0, none⟩ = some v := by
  rw [cell_of_row W b _ _ t (0, 0) h.obj]; rfl
theorem Vr.thaw {W : World} {b : Nat} {t : TypeId} {v : Value} (h : Vr W b t v) : W.frozen? ⟨b, 0, none⟩ = false := by
  simp [World.frozen?, h.obj]
theorem Vr.lt {W : World} {b : Nat} {t : TypeId} {v : Value} (h : Vr W b t v) : b < W.heap.size := (Array.getElem?_eq_some_iff.1 h.obj).1
theorem Vr.below {W W' : World} {B b : Nat} {t : TypeId} {v : Value} (h : Vr W b t v) (hb : Below B W W') (hB : b < B) : Vr W' b t v := ⟨by rw [hb.block b hB]; exact h.obj⟩
theorem Vr.fr {W W' : World} {S : Nat → Prop} {b : Nat} {t : TypeId} {v : Value} (h : Vr W b t v) (hf : Fr S W W') (hS : ¬ S b) : Vr W' b t v := ⟨by rw [hf.block b h.lt hS]; exact h.obj⟩
theorem Vr.keepC {W W' : World} {X : Nat → Prop} {b : Nat} {t : TypeId} {v : Value} (h : Vr W b t v) (hf : Kc X W W') (hX : ¬ X b) : Vr W' b t v := ⟨hf.same b _ h.obj rfl hX⟩
theorem Vr.new (W : World) (t : TypeId) (v : Value) : Vr (W.alloc (.cells #[v] t)) W.heap.size t v := ⟨heap_alloc_new W _⟩
theorem Vr.alloc {W : World} {b : Nat} {t : TypeId} {v : Value} (h : Vr W b t v) (o : Obj) : Vr (W.alloc o) b t v := ⟨by rw [Below.heap_alloc _ _ _ h.lt]; exact h.obj⟩
theorem Vr.set {W : World} {b : Nat} {t : TypeId} {v : Value} (h : Vr W b t v) (u : Value) : Vr (W.setCell ⟨b, 0, none⟩ u) b t u := ⟨by rw [heap_set_same h.obj]; rfl⟩
theorem Vr.other {W : World} {b c o : Nat} {t : TypeId} {v : Value} (h : Vr W b t v) (hc : b ≠ c) (u : Value) : Vr (W.setCell ⟨c, o, none⟩ u) b t v := ⟨by rw [Below.heap_setCell _ _ _ _ hc]; exact h.obj⟩
theorem Kc.setCell {X : Nat → Prop} {A B : World} (h : Kc X A B) {b o : Nat} (hb : X b) (u : Value) : Kc X A (B.setCell ⟨b, o, none⟩ u) :=
  h.trans (Kc.of_fr ((Fr.refl X B).setCell (p := ⟨b, o, none⟩) hb u))
theorem Kc.alloc {X : Nat → Prop} {A B : World} (h : Kc X A B) (o : Obj) : Kc X A (B.alloc o) := h.trans (Kc.of_fr ((Fr.refl X B).alloc o))
/-- What abides turns of blocks that are no cells. -/
theorem own_kc {β : Type} {B : Nat} {X : Nat → Prop} {A : World} : OwnFrom (β := β) B (fun _ W => Kc X A W) :=
  own_of_kc fun _ _ _ h k => h.trans ⟨k.size, fun i o hi ho _ => k.same i o hi ho (fun e => e)⟩
theorem own_vr {β : Type} {B b : Nat} {t : TypeId} {f : β → Value} : OwnFrom B (fun s W => Vr W b t (f s)) :=
  own_of_kc fun _ _ _ h k => h.keepC k (fun e => e)
theorem own_pure {β : Type} {B : Nat} {p : β → Prop} : OwnFrom B (fun s _ => p s) := fun _ _ _ _ h _ _ => h
/-- Marks that wait for the way out. -/
def Marks (W : World) (Ds : List Nat) : Prop := ∀ D ∈ Ds, W.heap[D]? = some (.deferred (some []))
theorem own_marks {β : Type} {B : Nat} {Ds : List Nat} (h : ∀ D ∈ Ds, D < B) : OwnFrom (β := β) B (fun _ W => Marks W Ds) := by
  intro s W W' row hs hg hr D hD
  rw [hg.block D (Array.getElem?_eq_some_iff.1 (hs D hD)).1 (fun e => by have := (hr D e.symm).1; have := h D hD; omega)]
  exact hs D hD
theorem Marks.others {W W' : World} {Ds : List Nat} (h : Marks W Ds) (k : KeepsOthers W W') : Marks W' Ds := fun D hD => k.same D _ (h D hD) rfl
theorem Marks.below {W W' : World} {Ds : List Nat} (h : Marks W Ds) (k : Below W.heap.size W W') : Marks W' Ds := fun D hD => by
  rw [k.block D (Array.getElem?_eq_some_iff.1 (h D hD)).1]; exact h D hD
theorem Marks.fr {W W' : World} {S : Nat → Prop} {Ds : List Nat} (h : Marks W Ds) (k : Fr S W W') (hS : ∀ D ∈ Ds, ¬ S D) : Marks W' Ds := fun D hD => by
  rw [k.block D (Array.getElem?_eq_some_iff.1 (h D hD)).1 (hS D hD)]; exact h D hD
def mark (D : Nat) : Deferred := { target := .collected D, args := #[] }
theorem OwnFrom.or {β : Type} {B : Nat} {I I' : β → World → Prop} (h : OwnFrom B I) (h' : OwnFrom B I') : OwnFrom B (fun s W => I s W ∨ I' s W) := fun s W W' row hs hg hr => hs.imp (fun e => h s W W' row e hg hr) (fun e => h' s W W' row e hg hr)
/-- Two parts of memory that have nothing in common. -/
structure Dj (S S' : Nat → Prop) : Prop where
  no : ∀ k, S k → ¬ S' k
theorem Dj.symm {S S' : Nat → Prop} (h : Dj S S') : Dj S' S := ⟨fun k h1 h2 => h.no k h2 h1⟩
theorem Dj.step {w : World} {S S1 S' : Nat → Prop} (h : Dj S S') (hs : Sub w S S1) (hl : ∀ k, S' k → k < w.heap.size) : Dj S1 S' :=
  ⟨fun k h1 h2 => (hs k h1).elim (fun e => h.no k e h2) (fun e => absurd (hl k h2) (by omega))⟩
/-- From a block on. -/
structure From (B : Nat) (S : Nat → Prop) : Prop where
  le : ∀ k, S k → B ≤ k
theorem From.step {B : Nat} {w : World} {S S1 : Nat → Prop} (h : From B S) (hs : Sub w S S1) (hB : B ≤ w.heap.size) : From B S1 :=
  ⟨fun k h1 => (hs k h1).elim (fun e => h.le k e) (fun e => Nat.le_trans hB e)⟩
theorem Below.fr {B : Nat} {a w w' : World} {S : Nat → Prop} (h : Below B a w) (hf : Fr S w w') (hS : From B S) (hB : B ≤ w.heap.size) : Below B a w' := h.trans (hf.below hB hS.le)
/-- A slice that was handed in. -/
structure Arg (w : World) (p : Option Addr) (n cap : Nat) (f : Nat → Value) : Prop where
  le : n ≤ cap
  most : cap ≤ maxLen
  cells : n = 0 ∨ ∃ b o, p = some ⟨b, o, none⟩ ∧ b < w.heap.size ∧ ∀ i, i < n → w.cell? ⟨b, o + i, none⟩ = some (f i)
theorem Arg.keep {w w' : World} {p : Option Addr} {n cap : Nat} {f : Nat → Value} (h : Arg w p n cap f) (hb : Below w.heap.size w w') : Arg w' p n cap f := by
  refine ⟨h.le, h.most, ?_⟩
  rcases h.cells with h | ⟨b, o, rfl, hlt, hc⟩
  · exact .inl h
  · exact .inr ⟨b, o, rfl, Nat.lt_of_lt_of_le hlt hb.size, fun i hi => (hb.cell (p := ⟨b, o + i, none⟩) hlt).trans (hc i hi)⟩
theorem Arg.at {w : World} {p : Option Addr} {n cap : Nat} {f : Nat → Value} (h : Arg w p n cap f) {i : Nat} (hi : i < n) : ∃ b o, p = some ⟨b, o, none⟩ ∧ b < w.heap.size ∧ ∀ i, i < n → w.cell? ⟨b, o + i, none⟩ = some (f i) := by
  rcases h.cells with h | h
  · omega
  · exact h
/-- The ways out of a range meet behind it. -/
theorem wp_meet {P : Program} {c : Code} {id : Nat} {Q : Exit → Act → World → Prop} {a : Act} {w : World} (R : Nat → World → Prop)
    (h1 : c.wp P (fun e a' W => (e = .normal ∨ e = .exit id) ∧ ∃ D, R D W ∧ a' = { tmps := a.tmps, defers := mark D :: a.defers }) a w)
    (h2 : ∀ D W, R D W → Q .normal { tmps := a.tmps, defers := mark D :: a.defers } W) : c.wp P (Exit.inBlock id Q) a w := by
  refine Code.wp_mono ?_ h1
  rintro e a' W ⟨rfl | rfl, D, hR, rfl⟩
  · exact h2 D W hR
  · show (if id = id then Q .normal _ W else _)
    rw [if_pos rfl]
    exact h2 D W hR
theorem ko_setCell (W : World) (b o : Nat) (u : Value) : KeepsOthers W (W.setCell ⟨b, o, none⟩ u) := KeepsOthers.setCell _ _ _

theorem grown_none {A B : World} (h : Below A.heap.size A B) : A.grownBy B none := ⟨h.os, h.tape, h.output, h.size, fun k hk _ => h.block k hk⟩
theorem sub_self (w : World) (S : Nat → Prop) : Sub w S S := fun k h => .inl h
/-- What only S has turned of, abides turns of new blocks. -/
theorem own_fr {β : Type} {B : Nat} {S : Nat → Prop} {A : World} (hB : A.heap.size ≤ B) : OwnFrom (β := β) B (fun _ W => Fr S A W) := by
  intro s W W' row hs hg hr
  refine ⟨hg.os.trans hs.os, hg.tape.trans hs.tape, hg.output.trans hs.output, Nat.le_trans hs.size hg.size, fun k hk hn => ?_⟩
  rw [hg.block k (Nat.lt_of_lt_of_le hk hs.size) (fun e => by have := (hr k e.symm).1; omega)]
  exact hs.block k hk hn
/-- A region that draws its order, in a round: as outside of it. -/
theorem oper_round {o : Oper} {a : Act} {w : World} {K : Act → World → Prop} {Q : Exit → Act → World → Prop} {P : Program} {r n : Nat} (h : ∀ c, o.op ≠ .defer c) (hh : o.wp P a w K Q) : o.wpIn (Fence.wide.inRound r) n P a w K Q := by
  unfold Oper.wpIn
  refine ⟨fun _ _ => trivial, ?_⟩
  rw [Oper.semAt_eq _ _ _ h]
  unfold Oper.wp at hh
  generalize (execOp a.eval o).run P w = R at *
  cases R with
  | ok x w' =>
    cases x <;> simp only [Oper.upon, Oper.uponIn] at hh ⊢ <;>
      first
        | exact hh
        | exact ⟨fun h => by simp [Fence.wide] at h, (CallsIn.inRound r (callsIn_wide.2 hh))⟩
        | exact ⟨fun h => by simp [Fence.wide] at h, fun c cs _ => let ⟨v, w1, h1, s⟩ := hh c cs; ⟨v, w1, h1, stepsIn_wide.2 s⟩⟩
  | halt x w' => cases x <;> simp only [Oper.upon, Oper.uponIn] at hh ⊢ <;> exact hh
theorem any_round {P : Program} {ops : Array Oper} {md : Region.Mode} {r n : Nat} {Q : Exit → Act → World → Prop} (hlo : ¬ LetsOut Q) (hd : ∀ (i : Nat) (o : Oper), ops[i]? = some o → ∀ c, o.op ≠ .defer c) :
    ∀ (fuel : Nat) (listed : Array Bool) (a : Act) (w : World), wpAny P md ops Q fuel listed a w → wpAnyIn (Fence.wide.inRound r) n P md ops Q fuel listed a w
  | 0, _, _, _, h => h
  | fuel + 1, listed, a, w, h => by
    refine ⟨h.1, fun i hi => ?_⟩
    have h2 := wpOp_mono (fun a' w' => any_round (r := r) (n := n) hlo hd fuel (listed.setIfInBounds i true) a' w') (h.2 i hi)
    unfold wpOp at h2
    unfold wpOpIn
    split
    · rename_i ho; simp only [ho] at h2; exact h2
    · rename_i o ho
      simp only [ho] at h2
      split
      · rename_i hw; simp only [hw, if_true] at h2; exact oper_round (hd i o ho) (h2.resolve_right (fun e => hlo e.2))
      · rename_i hw; simp only [hw] at h2; exact ⟨fun _ _ => trivial, h2⟩
def noDefer (ops : Array Oper) : Bool := ops.all fun o => match o.op with | .defer _ => false | _ => true
theorem noDefer_spec {ops : Array Oper} (h : noDefer ops = true) (i : Nat) (o : Oper) (ho : ops[i]? = some o) (c) : o.op ≠ .defer c := by
  intro e
  obtain ⟨hi, rfl⟩ := Array.getElem?_eq_some_iff.1 ho
  have := Array.all_eq_true.1 h i hi
  simp only [e] at this
  cases this
/-- Nothing but the way on. -/
def Only (Q : Exit → Act → World → Prop) : Exit → Act → World → Prop
  | .normal, a, w => Q .normal a w
  | _, _, _ => False
theorem Only.imp {Q : Exit → Act → World → Prop} : ∀ e a w, Only Q e a w → Q e a w := fun e a w h => by
  cases e <;> first | exact h | exact (h : False).elim
theorem Only.on {Q : Exit → Act → World → Prop} {a : Act} {w : World} (h : Q .normal a w) : Only Q .normal a w := h
/-- An operation taken first, whose place is told. -/
theorem takeO {P : Program} {ops : Array Oper} {Q : Exit → Act → World → Prop} {S : World → Prop} {fuel : Nat} {listed : Array Bool} {a : Act} {w : World} (i : Nat) (d : Option Tmp) {oi : Oper} {v : Value} (hi : ops[i]? = some oi) (hd : oi.dst = d)
    (hs : Region.noSelect ops = true) (hf : Region.free .any ops listed i = true) (hr : (Region.ready .any ops listed).contains i = true) (hy : YieldsIf P ops S oi v a) (hS : S w)
    (h : wpAnyH P .any ops (Only Q) S fuel (listed.setIfInBounds i true) (a.put d v) w) : wpAnyH P .any ops (Only Q) S (fuel + 1) listed a w :=
  wpAnyH_take hi hs hf hr (fun _ _ _ h => h) hy hS (by rw [hd]; exact h)
theorem round_held {P : Program} {id r n : Nat} {Q : Exit → Act → World → Prop} {a : Act} {w : World} {l : List Oper} (S : World → Prop) (k : Nat) (hk : l.toArray.size = k) (hm : P.follows .mixedOrders = true) (hd : noDefer l.toArray = true) (hS : S w.drew)
    (h : S w.drew → wpAnyH P .any l.toArray (Only Q) S k (Array.replicate k false) a w.drew) : (Code.region id l.toArray true).wpIn (Fence.wide.inRound r) n P Q a w :=
  wpIn_mono (wpIn_region_any hm (any_round (fun ⟨a, w, h⟩ => h) (noDefer_spec hd) _ _ _ _ (wpAny_of_held _ _ _ _ (by subst hk; exact h hS)))) Only.imp
/-- The way out of a function that has ranged over one function. -/
theorem leaves_one {F : Fence} {n : Nat} {P : Program} {fn : Func} {tmps : Array Value} {D : Nat} {v : Value} {J : World → Prop} {W : World} (hD : W.heap[D]? = some (.deferred (some []))) (hJ : ∀ o, J (W.putObj D o)) (hr : ∀ W', J W' → (results fn tmps).run P W' = .ok v W') :
    LeavesInM F n P fn tmps (fun e w' => e = .returned v ∧ J w') [mark D] .returning W :=
  ⟨by simp, .inl ⟨D, _, rfl, run_takeDeferred hD, ⟨v, hr _ (hJ _), rfl, hJ _⟩⟩⟩
end Go.Proofs.Ythcmcjklhcfenaa
