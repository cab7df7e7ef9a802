/- Layer 9 (grid): rows of the document's parts (embrasureref09.Part): what lies there, append; less. -/
import Derived.Test.YtfcaekboonnmaaaGrQ
import Derived.Lib.AppendZeros
import Derived.Deep.AppendLies
namespace Go.Proofs.Ytfcaekboonnmaaa
open Go.RowKit
set_option linter.unusedVariables false
set_option linter.unusedSimpArgs false
attribute [local go_sem ↓] Go.wp_at_zero Go.wp_at_succ

/-- The cells of parts. -/
def fl (ps : List (Int × Int)) : List Value := ps.flatMap fun e => [.int .i64 e.1, .int .i64 e.2]
theorem fl_nil : fl [] = [] := rfl
theorem fl_cons (e : Int × Int) (ps : List (Int × Int)) : fl (e :: ps) = .int .i64 e.1 :: .int .i64 e.2 :: fl ps := by simp [fl]
theorem fl_append (a b : List (Int × Int)) : fl (a ++ b) = fl a ++ fl b := by simp [fl]
theorem fl_length : ∀ ps : List (Int × Int), (fl ps).length = ps.length * 2
  | [] => rfl
  | e :: ps => by rw [fl_cons, List.length_cons, List.length_cons, fl_length ps, List.length_cons]; omega
theorem fl_one (ps : List (Int × Int)) : ∀ u ∈ fl ps, u.oneCell' = true := by
  intro u hu
  obtain ⟨e, _, hu⟩ := List.mem_flatMap.1 hu
  simp at hu
  rcases hu with rfl | rfl <;> rfl
theorem fl_take (ps : List (Int × Int)) (k : Nat) : (fl ps).take (k * 2) = fl (ps.take k) := by
  induction ps generalizing k with
  | nil => simp [fl_nil]
  | cons e ps ih =>
    cases k with
    | zero => simp [fl_nil]
    | succ k => rw [fl_cons, show (k + 1) * 2 = k * 2 + 1 + 1 by omega, List.take_succ_cons, List.take_succ_cons, ih, List.take_succ_cons, fl_cons]
theorem fl_drop (ps : List (Int × Int)) (k : Nat) : (fl ps).drop (k * 2) = fl (ps.drop k) := by
  induction ps generalizing k with
  | nil => simp [fl_nil]
  | cons e ps ih =>
    cases k with
    | zero => simp
    | succ k => rw [fl_cons, show (k + 1) * 2 = k * 2 + 1 + 1 by omega, List.drop_succ_cons, List.drop_succ_cons, ih, List.drop_succ_cons]
theorem fl_at (ps : List (Int × Int)) {k : Nat} (hk : k < ps.length) : (fl ps)[k * 2]? = some (.int .i64 ps[k].1) ∧ (fl ps)[k * 2 + 1]? = some (.int .i64 ps[k].2) := by
  induction ps generalizing k with
  | nil => simp at hk
  | cons e ps ih =>
    cases k with
    | zero => rw [fl_cons]; exact ⟨rfl, rfl⟩
    | succ k =>
      rw [fl_cons, show (k + 1) * 2 = k * 2 + 1 + 1 by omega]
      have := ih (k := k) (by simpa using hk)
      simpa using this
/-- A row of parts of one's own. -/
structure RowP (w : World) (B : Nat) (v : Value) (ps : List (Int × Int)) : Prop where
  own : w.ownsRow B 64 2 v ps.length (fl ps)
/-- Parts that lie somewhere. -/
structure SrcP (w : World) (p : Option Addr) (ps : List (Int × Int)) : Prop where
  ex : ps = [] ∨ ∃ g o, p = some ⟨g, o, none⟩ ∧ g < w.heap.size ∧ ∀ j u, (fl ps)[j]? = some u → w.cell? ⟨g, o + j, none⟩ = some u
theorem SrcP.keep {w w' : World} {p : Option Addr} {ps : List (Int × Int)} (h : SrcP w p ps) (hb : Below w.heap.size w w') : SrcP w' p ps := by
  rcases h.ex with h | ⟨g, o, hp, hg, hc⟩
  · exact ⟨.inl h⟩
  · exact ⟨.inr ⟨g, o, hp, Nat.lt_of_lt_of_le hg hb.size, fun j u hu => (hb.cell (p := ⟨g, o + j, none⟩) hg).trans (hc j u hu)⟩⟩
theorem SrcP.take {w : World} {p : Option Addr} {ps : List (Int × Int)} (h : SrcP w p ps) (k : Nat) : SrcP w p (ps.take k) := by
  rcases h.ex with h | ⟨g, o, hp, hg, hc⟩
  · exact ⟨.inl (by rw [h]; simp)⟩
  · refine ⟨.inr ⟨g, o, hp, hg, fun j u hu => hc j u ?_⟩⟩
    rw [← fl_take, List.getElem?_take] at hu
    split at hu
    · exact hu
    · cases hu
theorem SrcP.drop {w : World} {g o : Nat} {ps : List (Int × Int)} (h : SrcP w (some ⟨g, o, none⟩) ps) (k : Nat) : SrcP w (some ⟨g, o + k * 2, none⟩) (ps.drop k) := by
  rcases h.ex with h | ⟨g', o', hp, hg, hc⟩
  · exact ⟨.inl (by rw [h]; simp)⟩
  · cases hp
    refine ⟨.inr ⟨g, _, rfl, hg, fun j u hu => ?_⟩⟩
    rw [← fl_drop, List.getElem?_drop] at hu
    rw [Nat.add_assoc]; exact hc _ u hu
theorem SrcP.at {w : World} {p : Option Addr} {ps : List (Int × Int)} (h : SrcP w p ps) (h0 : ps ≠ []) : ∃ g o, p = some ⟨g, o, none⟩ ∧ g < w.heap.size ∧ ∀ k (hk : k < ps.length), w.cell? ⟨g, o + k * 2, none⟩ = some (.int .i64 ps[k].1) ∧ w.cell? ⟨g, o + k * 2 + 1, none⟩ = some (.int .i64 ps[k].2) := by
  rcases h.ex with h | ⟨g, o, hp, hg, hc⟩
  · exact absurd h h0
  · refine ⟨g, o, hp, hg, fun k hk => ?_⟩
    obtain ⟨e0, e1⟩ := fl_at ps hk
    exact ⟨hc _ _ e0, by rw [Nat.add_assoc]; exact hc _ _ e1⟩
/-- Parts in a slice. -/
structure ArgP (w : World) (p : Option Addr) (cap : Nat) (ps : List (Int × Int)) : Prop where
  le : ps.length ≤ cap
  most : cap ≤ maxLen
  src : SrcP w p ps
theorem ArgP.keep {w w' : World} {p : Option Addr} {cap : Nat} {ps : List (Int × Int)} (h : ArgP w p cap ps) (hb : Below w.heap.size w w') : ArgP w' p cap ps := ⟨h.le, h.most, h.src.keep hb⟩
theorem RowP.form {w : World} {B : Nat} {v : Value} {ps : List (Int × Int)} (h : RowP w B v ps) : ∃ a cap, v = .slice a ps.length cap ∧ ArgP w a cap ps := by
  rcases h.own.2 with ⟨rfl, hl⟩ | ⟨g, cap, cur, rfl, hb, hg, h1, h2, h3, h4⟩
  · exact ⟨none, 0, by rw [hl], by omega, by unfold maxLen; omega, ⟨.inl (List.length_eq_zero_iff.1 hl)⟩⟩
  · refine ⟨_, cap, rfl, h1, h2, ⟨.inr ⟨g, 0, rfl, (Array.getElem?_eq_some_iff.1 hg).1, fun j u hu => ?_⟩⟩⟩
    rw [Nat.zero_add, cell_of_row w g j cur _ (0, 0) hg]
    rw [← h4, List.getElem?_take] at hu
    split at hu
    · simpa using hu
    · cases hu
theorem RowP.keep {w w' : World} {B : Nat} {v : Value} {ps : List (Int × Int)} (h : RowP w B v ps) (hb : Below w.heap.size w w') : RowP w' B v ps := by
  refine ⟨h.own.1, ?_⟩
  rcases h.own.2 with hn | ⟨g, cap, cur, hv, hB, hg, r⟩
  · exact .inl hn
  · exact .inr ⟨g, cap, cur, hv, hB, (hb.block g (Array.getElem?_eq_some_iff.1 hg).1).trans hg, r⟩
theorem RowP.base {w : World} {B C : Nat} {v : Value} {ps : List (Int × Int)} (h : RowP w B v ps) (hC : C ≤ B) : RowP w C v ps := by
  refine ⟨h.own.1, ?_⟩
  rcases h.own.2 with hn | ⟨g, cap, cur, hv, hb, r⟩
  · exact .inl hn
  · exact .inr ⟨g, cap, cur, hv, Nat.le_trans hC hb, r⟩
theorem SrcP.fr {w w' : World} {X : Nat → Prop} {p : Option Addr} {ps : List (Int × Int)} (h : SrcP w p ps) (hf : Fr X w w') (hX : ∀ a, p = some a → ¬ X a.block) : SrcP w' p ps := by
  rcases h.ex with h | ⟨g, o, hp, hg, hc⟩
  · exact ⟨.inl h⟩
  · exact ⟨.inr ⟨g, o, hp, Nat.lt_of_lt_of_le hg hf.size, fun j u hu => (World.cell?_of_block (a := ⟨g, o + j, none⟩) (hf.block g hg (hX _ hp))).trans (hc j u hu)⟩⟩
theorem info_P : (Try.prog.info? 64).map (fun i => (i.zero, i.size, i.bytes)) = some (some (.agg #[.int .i64 0, .int .i64 0]), 2, 16) := by kernel_rfl
theorem info_Pp : ∃ i : TypeInfo, Try.prog.info? 64 = some i ∧ i.zero = some (.agg #[.int .i64 0, .int .i64 0]) ∧ i.size = 2 ∧ i.bytes = 16 := by
  obtain ⟨i, hi, h⟩ := Option.map_eq_some_iff.1 info_P
  simp only [Prod.mk.injEq] at h
  exact ⟨i, hi, h.1, h.2.1, h.2.2⟩
theorem rowP_new (w : World) : RowP (w.alloc (.cells #[] 64)) w.heap.size (.slice (some ⟨w.heap.size, 0, none⟩) 0 0) [] :=
  ⟨rfl, .inr ⟨w.heap.size, 0, #[], rfl, Nat.le_refl _, heap_alloc_new w _, Nat.le_refl _, by unfold maxLen; omega, by simp, rfl⟩⟩
theorem srcP_one (w : World) (x y : Int) : SrcP (w.alloc (.cells #[.int .i64 x, .int .i64 y] 64)) (some ⟨w.heap.size, 0, none⟩) [(x, y)] :=
  ⟨.inr ⟨w.heap.size, 0, rfl, by simp, fun j u hu => by
    rw [Nat.zero_add, cell_of_row _ _ _ _ _ _ (heap_alloc_new w _)]
    simpa [fl] using hu⟩⟩
theorem appendP_none (w : World) (q p : Option Addr) (n c cap : Nat) (ty : TypeId) (hn : n ≤ c) : (Builtin.append_ #[65, 65] ty #[.slice q n c, .slice p 0 cap]).run Try.prog w = .ok (.slice q n c) w := by
  obtain ⟨i0, hi, hz0, hz1, hz2⟩ := info_Pp
  cases p <;> cases q <;> simp [Builtin.append_, run_underlying Try.underlying65, sizeOf, typeInfo, hi, storeCells, Builtin.lenOf, Builtin.firstCells, go_sem, hn]
/-- Parts appended to a row of one's own. -/
theorem appendP {w : World} {B : Nat} {v : Value} {es us : List (Int × Int)} {p : Option Addr} {cap : Nat} (ty : TypeId) (h : RowP w B v es) (ha : SrcP w p us) (hB : B ≤ w.heap.size) (hl : es.length + us.length ≤ 100000) :
    ∃ a' c' w', (Builtin.append_ #[65, 65] ty #[v, .slice p us.length cap]).run Try.prog w = .ok (.slice a' (es ++ us).length c') w' ∧ RowP w' B (.slice a' (es ++ us).length c') (es ++ us) ∧ Below B w w' ∧ Fr (fun k => v.ownBlock = some k) w w' := by
  rcases ha.ex with rfl | ⟨g, o, rfl, hg, hc⟩
  · obtain ⟨q, c, rfl, hq⟩ := h.form
    exact ⟨q, c, _, by rw [List.append_nil]; exact appendP_none w q p es.length c cap ty hq.le, by rw [List.append_nil]; exact h, Below.refl _ _, Fr.refl _ _⟩
  · by_cases h0 : us = []
    · subst h0
      obtain ⟨q, c, rfl, hq⟩ := h.form
      exact ⟨q, c, _, by rw [List.append_nil]; exact appendP_none w q _ es.length c cap ty hq.le, by rw [List.append_nil]; exact h, Below.refl _ _, Fr.refl _ _⟩
    · have hpos : 0 < us.length := List.length_pos_iff.2 h0
      have hlen := fl_length us
      obtain ⟨i0, hi, hz0, hz1, hz2⟩ := info_Pp
      obtain ⟨g', cap', w', hr, ho, hgr, _, _⟩ := run_append_lies (P := Try.prog) w 65 ty B 64 i0 (.agg #[.int .i64 0, .int .i64 0]) 2 16 Try.underlying65 hi hz0 hz1 hz2 rfl (by decide) v es.length (fl es) h.own ⟨g, o, none⟩ us.length cap (fl us) (by omega) (fun j u hu => by rw [Addr.add_lit]; exact hc j u hu) (fl_one us) (by omega) (by unfold maxLen; omega) (by omega) hB w.heap.size rfl
      rw [← fl_append] at ho
      refine ⟨_, cap', w', by rw [List.length_append]; exact hr, ⟨?_⟩, ?_, grown_fr (Fr.refl _ _) hgr (fun k hk _ => hk)⟩
      · rw [List.length_append]; exact ho
      · exact ⟨hgr.os, hgr.tape, hgr.output, hgr.size, fun i hi => hgr.block i (by omega) (fun e => by have := (h.own.lt i e.symm).1; omega)⟩
/-- A part of a line. -/
def PartOk (e : Int × Int) : Prop := 0 ≤ e.1 ∧ e.1 ≤ e.2 ∧ 0 < e.2 ∧ e.2 ≤ 4194304
theorem PartOk.mul {a b : Int × Int} (ha : PartOk a) (hb : PartOk b) : 0 ≤ a.1 * b.2 ∧ a.1 * b.2 ≤ 17592186044416 := by
  obtain ⟨a1, a2, a3, a4⟩ := ha
  obtain ⟨b1, b2, b3, b4⟩ := hb
  have h1 := Int.mul_nonneg a1 (show 0 ≤ b.2 by omega)
  have h2 := Int.mul_le_mul_of_nonneg_right (show a.1 ≤ 4194304 by omega) (show 0 ≤ b.2 by omega)
  exact ⟨h1, by omega⟩
theorem refLessP (a1 a2 b1 b2 : Int) (ha : PartOk (a1, a2)) (hb : PartOk (b1, b2)) (w : World) :
    Calls Try.prog 63 #[.agg #[.int .i64 a1, .int .i64 a2], .agg #[.int .i64 b1, .int .i64 b2]] w fun e w' => e = .returned (.bool (decide (a1 * b2 < b1 * a2))) ∧ Below w.heap.size w w' := by
  obtain ⟨m1, m2⟩ := ha.mul hb
  obtain ⟨m3, m4⟩ := hb.mul ha
  dsimp only at m1 m2 m3 m4
  go_enter Try.func63, Try.ntmps63
  go_wp2
  go_ret
  exact ⟨rfl, ((Below.refl _ _).alloc (Nat.le_refl _) _).alloc (by simp) _⟩
def LessP (a b : Int × Int) : Prop := a.1 * b.2 < b.1 * a.2
/-- How far parts are ahead of x. -/
theorem firstNot (ps : List (Int × Int)) (x : Int × Int) : ∃ k, k ≤ ps.length ∧ (∀ j (hj : j < ps.length), j < k → LessP ps[j] x) ∧ ∀ hk : k < ps.length, ¬ LessP ps[k] x := by
  have key : ∀ m, m ≤ ps.length → (∀ j (hj : j < ps.length), j < m → LessP ps[j] x) ∨ ∃ k, k ≤ ps.length ∧ (∀ j (hj : j < ps.length), j < k → LessP ps[j] x) ∧ ∀ hk : k < ps.length, ¬ LessP ps[k] x := by
    intro m
    induction m with
    | zero => intro _; exact .inl fun j _ h => by omega
    | succ m ih =>
      intro hm
      rcases ih (by omega) with h | h
      · by_cases e : LessP ps[m] x
        · exact .inl fun j hj hl => by
            by_cases e' : j = m
            · subst e'; exact e
            · exact h j hj (by omega)
        · exact .inr ⟨m, by omega, h, fun _ => e⟩
      · exact .inr h
  rcases key ps.length (Nat.le_refl _) with h | h
  · exact ⟨ps.length, Nat.le_refl _, h, fun hk => absurd hk (Nat.lt_irrefl _)⟩
  · exact h
/-- With one part more. -/
inductive Ins (ps : List (Int × Int)) (x : Int × Int) : List (Int × Int) → Prop where
  | there (k : Nat) (hk : k < ps.length) (h1 : ¬ LessP ps[k] x) (h2 : ¬ LessP x ps[k]) : Ins ps x ps
  | new (k : Nat) (hk : k ≤ ps.length) (h1 : ∀ j (hj : j < ps.length), j < k → LessP ps[j] x) (h2 : ∀ hk : k < ps.length, LessP x ps[k]) : Ins ps x (ps.take k ++ x :: ps.drop k)
end Go.Proofs.Ytfcaekboonnmaaa
