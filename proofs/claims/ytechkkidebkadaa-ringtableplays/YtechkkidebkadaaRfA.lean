/- Layer 2 (ring): ranges over tables and rings: what a round keeps; what a table's All does. -/
import Derived.RangeFuncNested
import Derived.RangeFuncBound
import Derived.RangeFuncCalls
import Derived.RangeFuncLeaves
import Derived.Shelf.Abstract
import Derived.Shelf.RegionOpen
import Derived.WalkKit
import Derived.OwnWalkIn
import Derived.TacticsInMore
import Derived.LoopNIn
import Derived.LoopIn
import Derived.Test.YtechkkidebkadaaLwC
namespace Go.Proofs.Ytechkkidebkadaa
open Go.RowKit Go.Shelf
set_option linter.unusedVariables false
attribute [local go_sem] Oper.semAt_some

/-- Of what are cells, only blocks of X have turned. -/
structure Kc (X : Nat → Prop) (A B : World) : Prop where
  size : A.heap.size ≤ B.heap.size
  same : ∀ k o, A.heap[k]? = some o → o.isCells = true → ¬ X k → B.heap[k]? = some o
theorem Kc.refl (X : Nat → Prop) (A : World) : Kc X A A := ⟨Nat.le_refl _, fun _ _ h _ _ => h⟩
theorem Kc.trans {X : Nat → Prop} {A B C : World} (h : Kc X A B) (k : Kc X B C) : Kc X A C := ⟨Nat.le_trans h.size k.size, fun i o hi ho hx => k.same i o (h.same i o hi ho hx) ho hx⟩
theorem Kc.putObj {X : Nat → Prop} (B0 : Nat) : ∀ (W : World) (l : Nat) (o o' : Obj), B0 ≤ l → W.heap[l]? = some o → o.isCells = false → o.isWalk = false → Kc X W (W.putObj l o') := by
  intro W l o o' _ hl ho _
  refine ⟨by simp, fun k p hk hp _ => ?_⟩
  by_cases e : k = l
  · subst e; rw [hl] at hk; cases hk; rw [ho] at hp; cases hp
  · rw [World.putObj_heap_other e]; exact hk
theorem Kc.of_fr {X : Nat → Prop} {A B : World} (h : Fr X A B) : Kc X A B :=
  ⟨h.size, fun k o hk _ hx => (h.block k (Array.getElem?_eq_some_iff.1 hk).1 hx).trans hk⟩
theorem Kc.of_grown {A B : World} {r : Option Nat} (hg : A.grownBy B r) (hr : ∀ k, r = some k → ∃ o : Obj, A.heap[k]? = some o ∧ o.isCells = false) (X : Nat → Prop) : Kc X A B := by
  refine ⟨hg.size, fun k o hk ho _ => ?_⟩
  rw [hg.block k (Array.getElem?_eq_some_iff.1 hk).1 (fun e => ?_)]
  · exact hk
  · obtain ⟨o', h1, h2⟩ := hr k e.symm
    rw [h1] at hk; cases hk; rw [h2] at ho; cases ho
theorem Kc.cell {X : Nat → Prop} {A B : World} (h : Kc X A B) {b o : Nat} {v : Value} (hc : A.cell? ⟨b, o, none⟩ = some v) (hx : ¬ X b) : B.cell? ⟨b, o, none⟩ = some v := by
  unfold World.cell? at hc ⊢
  cases hb : A.heap[b]? with
  | none => simp [hb] at hc
  | some p =>
    cases p with
    | cells c e f => rw [h.same b _ hb rfl hx]; simpa [hb] using hc
    | _ => simp [hb] at hc
theorem Kc.frozen {X : Nat → Prop} {A B : World} (h : Kc X A B) {b o : Nat} {v : Value} (hc : A.cell? ⟨b, o, none⟩ = some v) (hf : A.frozen? ⟨b, o, none⟩ = false) (hx : ¬ X b) : B.frozen? ⟨b, o, none⟩ = false := by
  unfold World.cell? at hc
  unfold World.frozen? at hf ⊢
  cases hb : A.heap[b]? with
  | none => simp [hb] at hc
  | some p =>
    cases p with
    | cells c e f => rw [h.same b _ hb rfl hx]; simpa [hb] using hf
    | _ => simp [hb] at hc
theorem Box.keepC {T E sz : Nat} {w w' : World} {S X : Nat → Prop} {b : Nat} {m : Int} {n : Nat} {ys : List Value} {f : Int} {v : Value} (h : Box T E sz w S b m n ys f v) (hf : Kc X w w') (hd : ∀ k, S k → ¬ X k) : Box T E sz w' S b m n ys f v := by
  refine ⟨hf.same b _ h.obj rfl (hd b h.inb), ?_, h.inb, h.inr, fun k hk => Nat.lt_of_lt_of_le (h.lt k hk) hf.size, h.one⟩
  refine ⟨h.own.1, ?_⟩
  rcases h.own.2 with hn | ⟨g, cap, cur, hv, hb, hg, r⟩
  · exact .inl hn
  · exact .inr ⟨g, cap, cur, hv, hb, hf.same g _ hg rfl (hd g (h.inr g (by rw [hv]; rfl)).1), r⟩
theorem TableAt.keepC {T E sz : Nat} {w w' : World} {S X : Nat → Prop} {b m L : Nat} {es : List (Nat × Value)} (h : TableAt T E sz w S b m es L) (hf : Kc X w w') (hd : ∀ k, S k → ¬ X k) : TableAt T E sz w' S b m es L := by
  obtain ⟨v, hb, r⟩ := h
  exact ⟨v, hb.keepC hf hd, r⟩
theorem RingAt.keepC {T E : TypeId} {w w' : World} {S X : Nat → Prop} {b m : Nat} {xs : List Value} (h : RingAt T E w S b m xs) (hf : Kc X w w') (hd : ∀ k, S k → ¬ X k) : RingAt T E w' S b m xs := by
  obtain ⟨f, v, ys, hb, r⟩ := h
  exact ⟨f, v, ys, hb.keepC hf hd, r⟩
/-- What abides turns of blocks that are no cells is one's own. -/
theorem own_of_kc {β : Type} {B : Nat} {I : β → World → Prop} (h : ∀ s A C, I s A → Kc (fun _ => False) A C → I s C) : OwnFrom B I :=
  fun s W W' row hs hg hr => h s W W' hs (Kc.of_grown hg (fun k e => (hr k e).2) _)

theorem Rows2.keepC {X : Nat → Prop} {w w' : World} {g : Nat} {es : List (Nat × Value)} (h : Rows2 w g es) (hb : Kc X w w') (hx : ¬ X g) : Rows2 w' g es :=
  ⟨fun k hk => hb.cell (h.id k hk) hx, fun k hk => hb.cell (h.thing k hk) hx, Nat.lt_of_lt_of_le h.lt hb.size⟩
/-- What a table of numbers tells. -/
def toP (es : List (Nat × Value)) : List (Int × Int) := es.map fun e => ((e.1 : Int), intOf e.2)
theorem toP_length (es : List (Nat × Value)) : (toP es).length = es.length := by simp [toP]
set_option maxRecDepth 100000 in
set_option maxHeartbeats 2000000 in
theorem tAllN1 (F : Fence) (n : Nat) (hf : F.fn 45) (hro : F.round = none) (hn : 1 ≤ n) (X : Nat → Prop) (l Bn b g len cap : Nat) (a : Option Addr) (es : List (Nat × Value)) (J Jx : List (Int × Int) → World → Prop)
    (hY : ∀ pre x W, J pre W → pre.length < es.length → YieldAt F (n - 1) Try.prog l #[.int .i64 x.1, .int .i64 x.2] W fun e W' =>
      (e = .returned (.bool true) ∧ J (pre ++ [x]) W' ∧ Kc X W W') ∨ (e = .returned (.bool false) ∧ Jx (pre ++ [x]) W'))
    (W : World) (hJ : AbidesFrom W.heap.size J) (hBn : W.cell? ⟨Bn, 0, none⟩ = some (.pointer (some ⟨b, 0, none⟩))) (hbc : W.cell? ⟨b, 1, none⟩ = some (.slice a es.length cap)) (hl1 : es.length ≤ 1000) (hcap : es.length ≤ cap) (hcm : cap ≤ maxLen)
    (hR : es = [] ∨ a = some ⟨g, 0, none⟩ ∧ Rows2 W g es) (hX : ¬ X g) (hXl : ∀ k, X k → k < W.heap.size) (hs : AllN es) (h0 : J [] W) :
    CallsIn F n Try.prog 45 #[.func (.yield l) #[] #[], .pointer (some ⟨Bn, 0, none⟩)] W fun e W' => (∃ v, e = .returned v) ∧
      ((∃ ys, ys = toP es ∧ J ys W') ∨ (∃ pre, pre <+: toP es ∧ Jx pre W')) := by
  unfold maxLen at hcm
  refine callsIn_of_wp Try.func45 rfl hf ?_ hro
  simp only [Try.ntmps45, List.size_toArray, List.length_cons, List.length_nil, Nat.reduceAdd, Nat.reduceSub, Array.replicate_succ, Array.replicate_zero, List.push_toArray, List.append_toArray, List.nil_append, List.cons_append]
  gi_wp2
  gi_loopw [10] (fun i wr => ∃ k : Nat, k ≤ es.length ∧ i = .int .i64 k ∧ J ((toP es).take k) wr ∧ (es = [] ∨ a = some ⟨g, 0, none⟩ ∧ Rows2 wr g es))
    (fun i _ => es.length - (intOf i).toNat)
  case atStart => exact ⟨0, Nat.zero_le _, rfl, by simpa using h0, hR⟩
  case round =>
    obtain ⟨k, hk, rfl, hJs, hRr⟩ := hrel
    clear hR
    by_cases hlt : k < es.length
    · obtain ⟨rfl, hR2⟩ := hRr.resolve_left (fun e => by rw [e] at hlt; simp at hlt)
      have c0 := hR2.id k hlt
      have c1 := hR2.thing k hlt
      obtain ⟨z, hz⟩ := hs k hlt
      rw [hz] at c1
      have hki : (k : Int) < (es.length : Int) := by omega
      obtain ⟨x, hx⟩ : ∃ x, es[k].1 = x := ⟨_, rfl⟩
      rw [hx] at c0
      have hJ1 := hJ _ _ _ none hJs (World.grownBy_alloc wr (.cells #[.int .i64 (x : Int), .int .i64 z] 90) none) (fun r e => by cases e)
      obtain ⟨fn, tmps, assign, body, hy, hYR⟩ := hY _ ((x : Int), z) _ hJ1 (by rw [List.length_take, toP_length]; omega)
      dsimp only at hy
      have hsn : (toP es).take (k + 1) = (toP es).take k ++ [((x : Int), z)] := by
        rw [List.take_succ_eq_append_getElem (by rw [toP_length]; exact hlt)]
        congr 2
        simp only [toP, List.getElem_map, hx, hz]
        rfl
      have HSN : Hid _ := hsn
      clear hRr hsn
      gi_wp2
      refine hYR.mono ?_
      rintro e W3 (⟨rfl, hJ3, hk3⟩ | ⟨rfl, hJx3⟩)
      · have hR3 := (hR2.keep ((Below.refl _ _).alloc (Nat.le_refl _) _)).keepC hk3 hX
        gi_wp2
        go_roundw
        case rel => exact ⟨k + 1, by omega, by go_num, by rw [HSN.out]; exact hJ3, .inr ⟨by first | trivial | rfl, hR3⟩⟩
        case measure => simp [intOf]; omega
      · gi_wp2
        refine bodyPost_ret (results_none rfl _ _ _) rfl ?_
        exact ⟨⟨_, rfl⟩, .inr ⟨_, by rw [← HSN.out]; exact List.take_prefix _ _, hJx3⟩⟩
    · obtain rfl : k = es.length := by omega
      have hki : ¬ (es.length : Int) < (es.length : Int) := by omega
      gi_wp2
      go_end0
      rw [List.take_of_length_le (by rw [toP_length]; omega)] at hJs
      exact ⟨⟨_, rfl⟩, .inl hJs⟩
/-- A table of numbers tells all that it has, by rising ids, or the first of them. -/
theorem tAllN_stops (F : Fence) (n : Nat) (hf : F.fn 45) (hro : F.round = none) (hn : 1 ≤ n) (X S : Nat → Prop) (Bn b m L : Nat) (es : List (Nat × Value)) (w : World) (h : TableAt 88 90 2 w S b m es L) (hs : AllN es)
    (hBn : w.cell? ⟨Bn, 0, none⟩ = some (.pointer (some ⟨b, 0, none⟩))) (hBl : Bn < w.heap.size) (hd : ∀ k, S k → ¬ X k) (hXl : ∀ k, X k → k < w.heap.size) :
    SeqStopsK F n Try.prog 45 #[.pointer (some ⟨Bn, 0, none⟩)] (fun x : Int × Int => #[Value.int .i64 x.1, Value.int .i64 x.2]) (Kc X) (fun ys => ys = toP es) (fun pre => pre <+: toP es) es.length w := by
  intro l J Jx W hW hJ hJx hY h0
  have h' := h.below hW
  obtain ⟨v, hb, h1, h2, h3, h4, h5, h6, h7⟩ := h'
  obtain ⟨g, cap, a, rfl, hc1, hc2, hrows⟩ := rows2_of_box hb h5 hs.cells
  obtain ⟨c0, c1, c2, hlt⟩ := hb.cells
  have hXW : ∀ k, X k → k < W.heap.size := fun k hk => Nat.lt_of_lt_of_le (hXl k hk) hW.size
  by_cases he : es = []
  · subst he
    exact tAllN1 F n hf hro hn X l Bn b W.heap.size 0 cap a [] J Jx hY W hJ ((hW.cell (p := ⟨Bn, 0, none⟩) hBl).trans hBn) c1 (by omega) hc1 hc2 (.inl rfl) (fun e => by have := hXW _ e; omega) hXW hs h0
  · obtain ⟨rfl, hR⟩ := hrows.resolve_left he
    exact tAllN1 F n hf hro hn X l Bn b g 0 cap _ es J Jx hY W hJ ((hW.cell (p := ⟨Bn, 0, none⟩) hBl).trans hBn) c1 (by omega) hc1 hc2 (.inr ⟨rfl, hR⟩) (hd g (hb.inr g rfl).1) hXW hs h0
theorem tAllN (t : Option Addr) (w : World) :
    Calls Try.prog 24 #[.pointer t] w fun e w' => e = .returned (.func (.func 45) #[] #[.pointer (some ⟨w.heap.size, 0, none⟩)]) ∧ w' = w.alloc (.cells #[.pointer t] 43) := by
  go_enter Try.func24, Try.ntmps24
  go_wp2
  go_ret
  exact ⟨rfl, rfl⟩
end Go.Proofs.Ytechkkidebkadaa
