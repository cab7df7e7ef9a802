/- Layer 5 (message): a row of messages of one's own. -/
import Derived.Test.YtkmiogaklmgnkaaMsQ
namespace Go.Proofs.Ytkmiogaklmgnkaa
open Go.RowKit Go.Shelf
set_option linter.unusedVariables false
set_option linter.unusedSimpArgs false
attribute [local go_sem ↓] Go.wp_at_zero Go.wp_at_succ

theorem info_msg : (Try.prog.info? 40).map (fun i => (i.zero, i.size, i.bytes)) = some (some (.agg #[.int .i64 0, .int .u16 0, .int .u16 0, .int .u8 0, .int .i8 0, .int .i8 0, .int .i64 0, .int .u16 0, .int .i64 0, .int .i64 0, .int .i64 0, .int .i64 0, .int .i64 0, .int .i64 0, .int .i64 0, .int .i64 0, .int .i64 0, .int .i64 0, .int .i64 0, .int .i64 0, .int .u32 0, .int .u32 0, .slice none 0 0]), 23, 168) := by kernel_rfl
theorem owns_same {w w' : World} {B sz n : Nat} {e : TypeId} {v : Value} {xs : List Value} (h : w.ownsRow B e sz v n xs) (hk : ∀ k, v.ownBlock = some k → w'.heap[k]? = w.heap[k]?) : w'.ownsRow B e sz v n xs := by
  refine ⟨h.1, ?_⟩
  rcases h.2 with hn | ⟨g, cap, cur, hv, hb, hg, r⟩
  · exact .inl hn
  · exact .inr ⟨g, cap, cur, hv, hb, (hk g (by rw [hv]; rfl)).trans hg, r⟩
def msCells (ms : List Msg) (q : Nat → Value) : List Value := (List.range ms.length).flatMap fun i => (msgC (mg ms i) (q i)).toList
def snocQ (q : Nat → Value) (n : Nat) (u : Value) : Nat → Value := fun i => if i = n then u else q i
theorem mg_left (ms : List Msg) (m : Msg) {i : Nat} (h : i < ms.length) : mg (ms ++ [m]) i = mg ms i := by
  unfold mg; rw [List.getD_eq_getElem?_getD, List.getD_eq_getElem?_getD, List.getElem?_append_left h]
theorem mg_last (ms : List Msg) (m : Msg) : mg (ms ++ [m]) ms.length = m := by
  unfold mg; rw [List.getD_eq_getElem?_getD, List.getElem?_append_right (Nat.le_refl _)]; simp
theorem fm_congr {l : List Nat} {f g : Nat → List Value} (h : ∀ i ∈ l, f i = g i) : l.flatMap f = l.flatMap g := by
  induction l with
  | nil => rfl
  | cons a l ih => rw [List.flatMap_cons, List.flatMap_cons, h a (by simp), ih (fun i hi => h i (by simp [hi]))]
theorem msCells_snoc (ms : List Msg) (q : Nat → Value) (m : Msg) (u : Value) : msCells (ms ++ [m]) (snocQ q ms.length u) = msCells ms q ++ (msgC m u).toList := by
  unfold msCells
  rw [List.length_append, List.length_singleton, List.range_succ, List.flatMap_append]
  congr 1
  · apply fm_congr
    intro i hi
    have h := List.mem_range.1 hi
    rw [mg_left _ _ h]
    unfold snocQ
    rw [if_neg (by omega)]
  · simp only [List.flatMap_cons, List.flatMap_nil, List.append_nil, mg_last]
    unfold snocQ
    rw [if_pos rfl]
/-- A row of messages, with their bytes, within X. -/
structure MsAt (w : World) (B : Nat) (X : Nat → Prop) (v : Value) (ms : List Msg) (q : Nat → Value) : Prop where
  own : w.ownsRow B 40 23 v ms.length (msCells ms q)
  rows : ∀ i, i < ms.length → Row w B (q i) (mg ms i).bytes
  vX : ∀ k, v.ownBlock = some k → X k
  rX : ∀ i, i < ms.length → ∀ k, (q i).ownBlock = some k → X k ∧ v.ownBlock ≠ some k
  XB : ∀ k, X k → B ≤ k ∧ k < w.heap.size
  ok : ∀ i, i < ms.length → MOk (mg ms i) ∧ (mg ms i).bytes.length ≤ 1023
theorem MsAt.fr {w w' : World} {B : Nat} {X S : Nat → Prop} {v : Value} {ms : List Msg} {q : Nat → Value} (h : MsAt w B X v ms q) (hf : Fr S w w') (hd : ∀ k, X k → ¬ S k) : MsAt w' B X v ms q :=
  ⟨owns_same h.own (fun k hk => hf.block k (h.XB k (h.vX k hk)).2 (hd k (h.vX k hk))),
   fun i hi => (h.rows i hi).same (fun k hk => hf.block k (h.XB k (h.rX i hi k hk).1).2 (hd k (h.rX i hi k hk).1)),
   h.vX, h.rX, fun k hk => ⟨(h.XB k hk).1, Nat.lt_of_lt_of_le (h.XB k hk).2 hf.size⟩, h.ok⟩
theorem MsAt.below {w w' : World} {B : Nat} {X : Nat → Prop} {v : Value} {ms : List Msg} {q : Nat → Value} (h : MsAt w B X v ms q) (hf : Below w.heap.size w w') : MsAt w' B X v ms q := h.fr (S := fun _ => False) (Fr.of_below _ hf) (fun _ _ e => e)
theorem MsAt.nil (w : World) (B : Nat) : MsAt w B (fun _ => False) (.slice none 0 0) [] (fun _ => .slice none 0 0) :=
  ⟨World.ownsRow_nil _ _ _ _, (fun i hi => absurd hi (Nat.not_lt_zero i)), (fun k hk => by cases hk), (fun i hi => absurd hi (Nat.not_lt_zero i)), (fun k hk => hk.elim), fun i hi => absurd hi (Nat.not_lt_zero i)⟩
theorem MsAt.form {w : World} {B : Nat} {X : Nat → Prop} {v : Value} {ms : List Msg} {q : Nat → Value} (h : MsAt w B X v ms q) : ∃ p cap, v = .slice p ms.length cap ∧ ms.length ≤ cap ∧ cap ≤ maxLen := by
  rcases h.own.2 with ⟨rfl, hl⟩ | ⟨g, cap, cur, rfl, hb, hg, h1, h2, h3, h4⟩
  · exact ⟨none, 0, by rw [hl], by omega, by unfold maxLen; omega⟩
  · exact ⟨_, cap, rfl, h1, h2⟩
theorem msgC_one (m : Msg) (p : Option Addr) (n c : Nat) : ∀ u ∈ (msgC m (.slice p n c)).toList, u.oneCell' = true := by
  have h : (msgC m (.slice p n c)).all (fun v => v.oneCell') = true := one23
  intro u hu
  exact Array.all_eq_true'.1 h u (by simpa using hu)
/-- One message more. -/
theorem MsAt.push {w : World} {B : Nat} {X : Nat → Prop} {v : Value} {ms : List Msg} {q : Nat → Value} {m : Msg} {p : Option Addr} {c : Nat} (ty : TypeId) (h : MsAt w B X v ms q) (hB : B ≤ w.heap.size) (hr : Row w B (.slice p m.bytes.length c) m.bytes) (hv : ∀ k, (Value.slice p m.bytes.length c).ownBlock = some k → v.ownBlock ≠ some k) (hm : MOk m ∧ m.bytes.length ≤ 1023) (hl : ms.length ≤ 100) :
    ∃ v' w', (Builtin.append_ #[22, 22] ty #[v, .slice (some ⟨w.heap.size, 0, none⟩) 1 1]).run Try.prog (w.alloc (.cells (msgC m (.slice p m.bytes.length c)) 40)) = .ok v' w' ∧
      MsAt w' B (fun k => X k ∨ (Value.slice p m.bytes.length c).ownBlock = some k ∨ v'.ownBlock = some k) v' (ms ++ [m]) (snocQ q ms.length (.slice p m.bytes.length c)) ∧ Fr (fun k => v.ownBlock = some k) w w' ∧ ∀ k, v'.ownBlock = some k → v.ownBlock = some k ∨ w.heap.size < k := by
  obtain ⟨u, hu⟩ : ∃ u, Value.slice p m.bytes.length c = u := ⟨_, rfl⟩
  have hone := msgC_one m p m.bytes.length c
  rw [hu] at hr hv hone ⊢
  obtain ⟨i0, hi, hz0, hz1, hz2⟩ := info_parts info_msg
  obtain ⟨w1, hw1⟩ : ∃ w1, w.alloc (.cells (msgC m u) 40) = w1 := ⟨_, rfl⟩
  have hs1 : w1.heap.size = w.heap.size + 1 := by rw [← hw1]; simp
  have hb1 : Below w.heap.size w w1 := by rw [← hw1]; exact (Below.refl _ _).alloc (Nat.le_refl _) _
  have hnew : ∀ j x, (msgC m u).toList[j]? = some x → w1.cell? ((⟨w.heap.size, 0, none⟩ : Addr).add j) = some x := by
    intro j x hx
    rw [Addr.add_lit, ← hw1, Nat.zero_add, cell_of_row _ _ _ _ _ _ (heap_alloc_new w _)]
    simpa using hx
  have h1 := h.below hb1
  have hsz : (msgC m u).toList.length = 1 * 23 := rfl
  obtain ⟨g, cap', w', hrun, ho, hg, hgg, _⟩ := run_append_lies (P := Try.prog) w1 22 ty B 40 i0 (.agg #[.int .i64 0, .int .u16 0, .int .u16 0, .int .u8 0, .int .i8 0, .int .i8 0, .int .i64 0, .int .u16 0, .int .i64 0, .int .i64 0, .int .i64 0, .int .i64 0, .int .i64 0, .int .i64 0, .int .i64 0, .int .i64 0, .int .i64 0, .int .i64 0, .int .i64 0, .int .i64 0, .int .u32 0, .int .u32 0, .slice none 0 0]) 23 168 Try.underlying22 hi hz0 hz1 hz2 rfl (by decide) v ms.length (msCells ms q) h1.own ⟨w.heap.size, 0, none⟩ 1 1 (msgC m u).toList hsz hnew hone (by omega) (by unfold maxLen; omega) (by omega) (by omega) w1.heap.size rfl
  rw [← msCells_snoc] at ho
  rw [hw1]
  have hgr : Fr (fun k => v.ownBlock = some k) w1 w' := Fr.of_grown hg (fun k e => e)
  have hnw : ∀ k, (Value.slice (some ⟨g, 0, none⟩) (ms.length + 1) cap').ownBlock = some k → v.ownBlock = some k ∨ w1.heap.size ≤ k := own_new hgg (Nat.le_refl _)
  have hgl : ∀ k, (Value.slice (some ⟨g, 0, none⟩) (ms.length + 1) cap').ownBlock = some k → B ≤ k ∧ k < w'.heap.size := fun k hk => ho.lt k hk
  refine ⟨_, w', hrun, ⟨by rw [List.length_append, List.length_singleton]; exact ho, fun i hi => ?_, fun k hk => .inr (.inr hk), fun i hi k hk => ?_, fun k hk => ?_, fun i hi => ?_⟩, (Fr.of_below _ hb1).trans hgr (fun _ _ e => e), fun k hk => (hnw k hk).imp id (fun e => by omega)⟩
  · rw [List.length_append, List.length_singleton] at hi
    by_cases e : i = ms.length
    · subst e
      unfold snocQ
      rw [if_pos rfl, mg_last]
      exact (hr.below hb1).same (fun k hk => hgr.block k (by have := (hr.ge hk).2; omega) (hv k hk))
    · have hi' : i < ms.length := by omega
      unfold snocQ
      rw [if_neg e, mg_left _ _ hi']
      exact (h1.rows i hi').same (fun k hk => hgr.block k (by have := (h.XB k (h.rX i hi' k hk).1).2; omega) (h.rX i hi' k hk).2)
  · rw [List.length_append, List.length_singleton] at hi
    by_cases e : i = ms.length
    · subst e
      unfold snocQ at hk
      rw [if_pos rfl] at hk
      refine ⟨.inr (.inl hk), fun e2 => ?_⟩
      rcases hnw k e2 with e3 | e3
      · exact hv k hk e3
      · have := (hr.ge hk).2; omega
    · have hi' : i < ms.length := by omega
      unfold snocQ at hk
      rw [if_neg e] at hk
      refine ⟨.inl (h.rX i hi' k hk).1, fun e2 => ?_⟩
      rcases hnw k e2 with e3 | e3
      · exact (h.rX i hi' k hk).2 e3
      · have := (h.XB k (h.rX i hi' k hk).1).2; omega
  · have hsz' := hgr.size
    rcases hk with hk | hk | hk
    · have := h.XB k hk; exact ⟨this.1, by omega⟩
    · have := hr.ge hk; exact ⟨this.1, by omega⟩
    · exact hgl k hk
  · rw [List.length_append, List.length_singleton] at hi
    by_cases e : i = ms.length
    · subst e; rw [mg_last]; exact hm
    · rw [mg_left _ _ (by omega)]; exact h.ok i (by omega)
end Go.Proofs.Ytkmiogaklmgnkaa
