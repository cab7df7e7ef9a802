/- Layer 2 (ring): variables in boxes; the way out of a function that has ranged over functions. -/
import Derived.Test.YtechkkidebkadaaRfC
namespace Go.Proofs.Ytechkkidebkadaa
open Go.RowKit Go.Shelf
set_option linter.unusedVariables false

/-- A variable in a box of its own. -/
structure Vr (W : World) (b : Nat) (t : TypeId) (v : Value) : Prop where
  obj : W.heap[b]? = some (.cells #[v] t (0, 0))
theorem Vr.cell {W : World} {b : Nat} {t : TypeId} {v : Value} (h : Vr W b t v) : W.cell? ⟨b, 0, none⟩ = some v := by
  rw [cell_of_row W b _ _ t (0, 0) h.obj]; rfl
theorem Vr.thaw {W : World} {b : Nat} {t : TypeId} {v : Value} (h : Vr W b t v) : W.frozen? ⟨b, 0, none⟩ = false := by
  simp [World.frozen?, h.obj]
theorem Vr.lt {W : World} {b : Nat} {t : TypeId} {v : Value} (h : Vr W b t v) : b < W.heap.size := (Array.getElem?_eq_some_iff.1 h.obj).1
theorem Vr.below {W W' : World} {B b : Nat} {t : TypeId} {v : Value} (h : Vr W b t v) (hb : Below B W W') (hB : b < B) : Vr W' b t v := ⟨by rw [hb.block b hB]; exact h.obj⟩
theorem Vr.fr {W W' : World} {S : Nat → Prop} {b : Nat} {t : TypeId} {v : Value} (h : Vr W b t v) (hf : Fr S W W') (hS : ¬ S b) : Vr W' b t v := ⟨by rw [hf.block b h.lt hS]; exact h.obj⟩
theorem Vr.keepC {W W' : World} {X : Nat → Prop} {b : Nat} {t : TypeId} {v : Value} (h : Vr W b t v) (hf : Kc X W W') (hX : ¬ X b) : Vr W' b t v := ⟨hf.same b _ h.obj rfl hX⟩
theorem Vr.new (W : World) (t : TypeId) (v : Value) : Vr (W.alloc (.cells #[v] t)) W.heap.size t v := ⟨heap_alloc_new W _⟩
theorem Vr.alloc {W : World} {b : Nat} {t : TypeId} {v : Value} (h : Vr W b t v) (o : Obj) : Vr (W.alloc o) b t v := ⟨by rw [Below.heap_alloc _ _ _ h.lt]; exact h.obj⟩
theorem Vr.set {W : World} {b : Nat} {t : TypeId} {v : Value} (h : Vr W b t v) (u : Value) : Vr (W.setCell ⟨b, 0, none⟩ u) b t u := ⟨by rw [heap_set_same h.obj]; rfl⟩
theorem Vr.other {W : World} {b c o : Nat} {t : TypeId} {v : Value} (h : Vr W b t v) (hc : b ≠ c) (u : Value) : Vr (W.setCell ⟨c, o, none⟩ u) b t v := ⟨by rw [Below.heap_setCell _ _ _ _ hc]; exact h.obj⟩
theorem Kc.setCell {X : Nat → Prop} {A B : World} (h : Kc X A B) {b o : Nat} (hb : X b) (u : Value) : Kc X A (B.setCell ⟨b, o, none⟩ u) :=
  h.trans (Kc.of_fr ((Fr.refl X B).setCell (p := ⟨b, o, none⟩) hb u))
theorem Kc.alloc {X : Nat → Prop} {A B : World} (h : Kc X A B) (o : Obj) : Kc X A (B.alloc o) := h.trans (Kc.of_fr ((Fr.refl X B).alloc o))
/-- What abides turns of blocks that are no cells. -/
theorem own_kc {β : Type} {B : Nat} {X : Nat → Prop} {A : World} : OwnFrom (β := β) B (fun _ W => Kc X A W) :=
  own_of_kc fun _ _ _ h k => h.trans ⟨k.size, fun i o hi ho _ => k.same i o hi ho (fun e => e)⟩
theorem own_vr {β : Type} {B b : Nat} {t : TypeId} {f : β → Value} : OwnFrom B (fun s W => Vr W b t (f s)) :=
  own_of_kc fun _ _ _ h k => h.keepC k (fun e => e)
theorem own_pure {β : Type} {B : Nat} {p : β → Prop} : OwnFrom B (fun s _ => p s) := fun _ _ _ _ h _ _ => h
/-- Marks that wait for the way out. -/
def Marks (W : World) (Ds : List Nat) : Prop := ∀ D ∈ Ds, W.heap[D]? = some (.deferred (some []))
theorem own_marks {β : Type} {B : Nat} {Ds : List Nat} (h : ∀ D ∈ Ds, D < B) : OwnFrom (β := β) B (fun _ W => Marks W Ds) := by
  intro s W W' row hs hg hr D hD
  rw [hg.block D (Array.getElem?_eq_some_iff.1 (hs D hD)).1 (fun e => by have := (hr D e.symm).1; have := h D hD; omega)]
  exact hs D hD
theorem Marks.others {W W' : World} {Ds : List Nat} (h : Marks W Ds) (k : KeepsOthers W W') : Marks W' Ds := fun D hD => k.same D _ (h D hD) rfl
theorem Marks.below {W W' : World} {Ds : List Nat} (h : Marks W Ds) (k : Below W.heap.size W W') : Marks W' Ds := fun D hD => by
  rw [k.block D (Array.getElem?_eq_some_iff.1 (h D hD)).1]; exact h D hD
theorem Marks.fr {W W' : World} {S : Nat → Prop} {Ds : List Nat} (h : Marks W Ds) (k : Fr S W W') (hS : ∀ D ∈ Ds, ¬ S D) : Marks W' Ds := fun D hD => by
  rw [k.block D (Array.getElem?_eq_some_iff.1 (h D hD)).1 (hS D hD)]; exact h D hD
def mark (D : Nat) : Deferred := { target := .collected D, args := #[] }
/-- The way out: all marks are taken, and the answer is read. -/
theorem leaves_marks {F : Fence} {n : Nat} {P : Program} {fn : Func} {tmps : Array Value} {B rb : Nat} {t : TypeId} {w : World} (hr : ∀ W : World, Vr W rb t (.bool true) → (results fn tmps).run P W = .ok (.bool true) W) :
    ∀ (Ds : List Nat) (W : World), Marks W Ds → Ds.Nodup → (∀ D ∈ Ds, B ≤ D) → Vr W rb t (.bool true) → Below B w W →
      LeavesInM F n P fn tmps (fun e w' => e = .returned (.bool true) ∧ Below B w w') (Ds.map mark) .returning W
  | [], W, _, _, _, hv, hb => ⟨.bool true, hr W hv, rfl, hb⟩
  | D :: r, W, hm, hn, hB, hv, hb => by
    have hD := hm D (List.mem_cons_self ..)
    have hne : rb ≠ D := fun e => by have := hv.obj; rw [e, hD] at this; cases this
    refine ⟨by simp, .inl ⟨D, _, rfl, run_takeDeferred hD, ?_⟩⟩
    refine leaves_marks hr r _ (fun k hk => ?_) (List.nodup_cons.1 hn).2 (fun k hk => hB k (List.mem_cons_of_mem _ hk)) ⟨?_⟩ ?_
    · rw [World.putObj_heap_other (fun e => (List.nodup_cons.1 hn).1 (by rw [← e]; exact hk))]
      exact hm k (List.mem_cons_of_mem _ hk)
    · rw [World.putObj_heap_other hne]; exact hv.obj
    · refine hb.trans ⟨rfl, rfl, rfl, by simp, fun k hk => World.putObj_heap_other (fun e => ?_)⟩
      have := hB D (List.mem_cons_self ..)
      omega
theorem OwnFrom.or {β : Type} {B : Nat} {I I' : β → World → Prop} (h : OwnFrom B I) (h' : OwnFrom B I') : OwnFrom B (fun s W => I s W ∨ I' s W) := fun s W W' row hs hg hr => hs.imp (fun e => h s W W' row e hg hr) (fun e => h' s W W' row e hg hr)
/-- What is new. -/
theorem ringI_new (m : Nat) (h1 : 1 ≤ m) (h2 : m ≤ 1000) (x : Int) (hx : max x 1 = (m : Int)) (w : World) :
    Calls Try.prog 12 #[.int .i64 x] w fun e w' => e = .returned (.pointer (some ⟨w.heap.size, 0, none⟩)) ∧ RingAt 82 3 w' (fun k => k = w.heap.size) w.heap.size m [] ∧ Below w.heap.size w w' := by
  refine (newI x w).mono ?_; rintro e w' ⟨rfl, rfl⟩
  rw [hx]
  exact ⟨rfl, ring_new _ _ w m h1 h2, (Below.refl _ _).alloc (Nat.le_refl _) _⟩
theorem ringS_new (m : Nat) (h1 : 1 ≤ m) (h2 : m ≤ 1000) (x : Int) (hx : max x 1 = (m : Int)) (w : World) :
    Calls Try.prog 18 #[.int .i64 x] w fun e w' => e = .returned (.pointer (some ⟨w.heap.size, 0, none⟩)) ∧ RingAt 85 9 w' (fun k => k = w.heap.size) w.heap.size m [] ∧ Below w.heap.size w w' := by
  refine (newS x w).mono ?_; rintro e w' ⟨rfl, rfl⟩
  rw [hx]
  exact ⟨rfl, ring_new _ _ w m h1 h2, (Below.refl _ _).alloc (Nat.le_refl _) _⟩
theorem tabN_new (m : Nat) (h1 : 1 ≤ m) (h2 : m ≤ 1000) (x : Int) (hx : max x 1 = (m : Int)) (w : World) :
    Calls Try.prog 22 #[.int .i64 x] w fun e w' => e = .returned (.pointer (some ⟨w.heap.size, 0, none⟩)) ∧ TableAt 88 90 2 w' (fun k => k = w.heap.size) w.heap.size m [] 0 ∧ Below w.heap.size w w' := by
  refine (tnewN x w).mono ?_; rintro e w' ⟨rfl, rfl⟩
  rw [hx]
  exact ⟨rfl, table_new _ _ 2 w m h1 h2, (Below.refl _ _).alloc (Nat.le_refl _) _⟩
/-- The ways out of a range meet behind it. -/
theorem wp_meet {P : Program} {c : Code} {id : Nat} {Q : Exit → Act → World → Prop} {a : Act} {w : World} (R : Nat → World → Prop)
    (h1 : c.wp P (fun e a' W => (e = .normal ∨ e = .exit id) ∧ ∃ D, R D W ∧ a' = { tmps := a.tmps, defers := mark D :: a.defers }) a w)
    (h2 : ∀ D W, R D W → Q .normal { tmps := a.tmps, defers := mark D :: a.defers } W) : c.wp P (Exit.inBlock id Q) a w := by
  refine Code.wp_mono ?_ h1
  rintro e a' W ⟨rfl | rfl, D, hR, rfl⟩
  · exact h2 D W hR
  · show (if id = id then Q .normal _ W else _)
    rw [if_pos rfl]
    exact h2 D W hR
theorem ko_setCell (W : World) (b o : Nat) (u : Value) : KeepsOthers W (W.setCell ⟨b, o, none⟩ u) := KeepsOthers.setCell _ _ _
end Go.Proofs.Ytechkkidebkadaa
