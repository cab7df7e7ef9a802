/- Generic: rows of values of one cell each, of whatever type. -/
import Derived.Test.YtneaanmchachlaaBtA
import Derived.Lib.SliceRun
import Derived.Lib.AppendZeros
import Derived.Test.YtneaanmchachlaaNvB
namespace Go.Proofs.Ytneaanmchachlaa
open Go.RowKit Go.Shelf
set_option linter.unusedVariables false
set_option linter.unusedSimpArgs false

/-- A row that is new, and one's own. -/
structure RowV (E : TypeId) (w : World) (B : Nat) (v : Value) (ys : List Value) : Prop where
  own : w.ownsRow B E 1 v ys.length ys
  one : ∀ u ∈ ys, u.oneCell' = true
theorem RowV.base {E : TypeId} {w : World} {B C : Nat} {v : Value} {ys : List Value} (h : RowV E w B v ys) (hC : C ≤ B) : RowV E w C v ys := by
  refine ⟨⟨h.own.1, ?_⟩, h.one⟩
  rcases h.own.2 with hn | ⟨g, cap, cur, hv, hb, r⟩
  · exact .inl hn
  · exact .inr ⟨g, cap, cur, hv, Nat.le_trans hC hb, r⟩
theorem RowV.frN {E : TypeId} {w w' : World} {B : Nat} {S : Nat → Prop} {v : Value} {ys : List Value} (h : RowV E w B v ys) (hf : Fr S w w') (hS : ∀ k, v.ownBlock = some k → ¬ S k) : RowV E w' B v ys := by
  refine ⟨⟨h.own.1, ?_⟩, h.one⟩
  rcases h.own.2 with hn | ⟨g, cap, cur, rfl, hb, hg, r⟩
  · exact .inl hn
  · refine .inr ⟨g, cap, cur, rfl, hb, ?_, r⟩
    rw [hf.block g (Array.getElem?_eq_some_iff.1 hg).1 (hS g rfl)]; exact hg
theorem RowV.fr {E : TypeId} {w w' : World} {B : Nat} {S : Nat → Prop} {v : Value} {ys : List Value} (h : RowV E w B v ys) (hf : Fr S w w') (hS : ∀ k, S k → k < B) : RowV E w' B v ys :=
  h.frN hf fun k hk e => by have := (h.own.lt k hk).1; have := hS k e; omega
theorem RowV.below {E : TypeId} {w w' : World} {B : Nat} {v : Value} {ys : List Value} (h : RowV E w B v ys) (hf : Below w.heap.size w w') : RowV E w' B v ys := h.fr (S := fun _ => False) (Fr.of_below _ hf) (fun _ e => e.elim)
theorem RowV.lt {E : TypeId} {w : World} {B : Nat} {v : Value} {ys : List Value} (h : RowV E w B v ys) : ∀ k, v.ownBlock = some k → B ≤ k ∧ k < w.heap.size := h.own.lt
theorem RowV.arg {E : TypeId} {w : World} {B : Nat} {v : Value} {ys : List Value} (h : RowV E w B v ys) {f : Nat → Value} (hf : ∀ i, i < ys.length → ys[i]? = some (f i)) : ∃ p cap, v = .slice p ys.length cap ∧ Arg w p ys.length cap f := by
  rcases h.own.2 with ⟨rfl, hl⟩ | ⟨g, cap, cur, rfl, hb, hg, h1, h2, h3, h4⟩
  · exact ⟨none, 0, by rw [hl], by omega, by unfold maxLen; omega, .inl hl⟩
  · refine ⟨_, cap, rfl, h1, h2, .inr ⟨g, 0, rfl, (Array.getElem?_eq_some_iff.1 hg).1, fun i hi => ?_⟩⟩
    rw [Nat.zero_add, cell_of_row w g i cur E (0, 0) hg]
    have hi' : i < ys.length * 1 := by omega
    have : ys[i]? = cur.toList[i]? := by rw [← h4, List.getElem?_take, if_pos hi']
    rw [hf i hi] at this
    simpa using this.symm
theorem RowV.form {E : TypeId} {w : World} {B : Nat} {v : Value} {ys : List Value} (h : RowV E w B v ys) : ∃ p cap, v = .slice p ys.length cap ∧ ys.length ≤ cap ∧ cap ≤ maxLen := by
  obtain ⟨p, cap, hv, ha⟩ := h.arg (f := fun i => ys.getD i undef) (fun i hi => by simp [hi])
  exact ⟨p, cap, hv, ha.le, ha.most⟩
theorem RowV.argN {E : TypeId} {w : World} {B n cap : Nat} {p : Option Addr} {ys : List Value} (h : RowV E w B (.slice p n cap) ys) {f : Nat → Value} (hn : ys.length = n) (hf : ∀ i, i < n → ys[i]? = some (f i)) : Arg w p n cap f := by
  subst hn
  obtain ⟨_, _, he, ha⟩ := h.arg hf
  cases he
  exact ha
theorem rowV_nil (E : TypeId) (w : World) (B : Nat) : RowV E w B (.slice none 0 0) [] := ⟨World.ownsRow_nil _ _ _ _, by simp⟩
theorem rowV_new (E : TypeId) (w : World) (k : Nat) (cs : Array Value) (hk : cs.size = k) (hm : k ≤ maxLen) : RowV E (w.alloc (.cells cs E)) w.heap.size (.slice (some ⟨w.heap.size, 0, none⟩) 0 k) [] :=
  ⟨⟨rfl, .inr ⟨w.heap.size, k, cs, rfl, Nat.le_refl _, heap_alloc_new w _, Nat.zero_le _, hm, by omega, rfl⟩⟩, by simp⟩
/-- What is to be known of a type of elements. -/
structure El (t E : TypeId) : Prop where
  un : Try.prog.underlying t = some (.slice E)
  info : ∃ (i : TypeInfo) (z : Value) (by_ : Nat), Try.prog.info? E = some i ∧ i.zero = some z ∧ i.size = 1 ∧ i.bytes = by_ ∧ z.cells.size = 1 ∧ by_ ≤ 16
/-- Values appended to a row of one's own. -/
theorem append_rowV {t E : TypeId} (he : El t E) {w : World} {B : Nat} {v : Value} {ys zs : List Value} {p : Option Addr} {cap : Nat} (ty : TypeId) (h : RowV E w B v ys) {f : Nat → Value} (ha : Arg w p zs.length cap f) (hf : ∀ i, i < zs.length → zs[i]? = some (f i)) (h1 : ∀ u ∈ zs, u.oneCell' = true) (hB : B ≤ w.heap.size) (hl : ys.length + zs.length ≤ 100000) :
    ∃ v' w', (Builtin.append_ #[t, t] ty #[v, .slice p zs.length cap]).run Try.prog w = .ok v' w' ∧ RowV E w' B v' (ys ++ zs) ∧ w.grownBy w' v.ownBlock ∧ (∀ k, v'.ownBlock = some k → v.ownBlock = some k ∨ w.heap.size ≤ k) := by
  obtain ⟨i0, z0, by0, hi, hz0, hz1, hz2, hz3, hz4⟩ := he.info
  by_cases h0 : zs.length = 0
  · have hy : zs = [] := List.length_eq_zero_iff.1 h0
    subst hy
    obtain ⟨q, c, rfl, hq, _⟩ := h.form
    refine ⟨_, w, ?_, by rw [List.append_nil]; exact h, ⟨rfl, rfl, rfl, Nat.le_refl _, fun _ _ _ => rfl⟩, fun k hk => .inl hk⟩
    cases p <;> cases q <;> simp [Builtin.append_, run_underlying he.un, sizeOf, typeInfo, hi, hz1, storeCells, Builtin.lenOf, Builtin.firstCells, go_sem, hq]
  · obtain ⟨b, o, rfl, hb, hc⟩ := ha.at (i := 0) (by omega)
    have hnews : ∀ j u, zs[j]? = some u → w.cell? ((⟨b, o, none⟩ : Addr).add j) = some u := by
      intro j u hu
      obtain ⟨hj, _⟩ := List.getElem?_eq_some_iff.1 hu
      rw [Addr.add_lit, hc j hj, ← hf j hj, hu]
    obtain ⟨g, cap', w', hr, ho, hg, hat, hgl⟩ := run_append_lies (P := Try.prog) w t ty B E i0 z0 1 by0 he.un hi hz0 hz1 hz2 hz3 (by decide) v ys.length ys h.own ⟨b, o, none⟩ zs.length cap zs (by omega) hnews h1 (by omega) (by unfold maxLen; omega) (by
      have : (ys.length + zs.length) * by0 ≤ 100000 * 16 := Nat.mul_le_mul hl hz4
      omega) (by omega) w.heap.size rfl
    refine ⟨_, w', hr, ⟨?_, ?_⟩, hg, own_new hat (Nat.le_refl _)⟩
    · rw [List.length_append]; exact ho
    · intro u hu
      rcases List.mem_append.1 hu with hu | hu
      · exact h.one u hu
      · exact h1 u hu
/-- A row, appended to a new one. -/
theorem append_copyV {t E : TypeId} (he : El t E) {w : World} {zs : List Value} {p : Option Addr} {cap : Nat} (ty : TypeId) {f : Nat → Value} (ha : Arg w p zs.length cap f) (hf : ∀ i, i < zs.length → zs[i]? = some (f i)) (h1 : ∀ u ∈ zs, u.oneCell' = true) (hl : zs.length ≤ 100000) :
    ∃ v' w', (Builtin.append_ #[t, t] ty #[.slice (some ⟨w.heap.size, 0, none⟩) 0 0, .slice p zs.length cap]).run Try.prog (w.alloc (.cells #[] E)) = .ok v' w' ∧ RowV E w' w.heap.size v' zs ∧ Below w.heap.size w w' := by
  have hb : Below w.heap.size w (w.alloc (.cells #[] E)) := (Below.refl _ _).alloc (Nat.le_refl _) _
  obtain ⟨v', w', hr, h2, hg, _⟩ := append_rowV he ty (rowV_new E w 0 #[] rfl (by unfold maxLen; omega)) (ha.keep hb) hf h1 (by simp) (by simpa using hl)
  refine ⟨v', w', hr, by rw [List.nil_append] at h2; exact h2, ?_⟩
  exact ⟨hg.os.trans hb.os, hg.tape.trans hb.tape, hg.output.trans hb.output, Nat.le_trans hb.size hg.size, fun i hi => (hg.block i (Nat.lt_of_lt_of_le hi hb.size) (fun e => by cases e; exact absurd hi (Nat.lt_irrefl _))).trans (hb.block i hi)⟩
theorem grown_fr {w w1 w2 : World} {S : Nat → Prop} {r : Option Nat} (hb : Fr S w w1) (hg : w1.grownBy w2 r) (hr : ∀ k, r = some k → k < w.heap.size → S k) : Fr S w w2 :=
  ⟨hg.os.trans hb.os, hg.tape.trans hb.tape, hg.output.trans hb.output, Nat.le_trans hb.size hg.size, fun i hi hn => (hg.block i (Nat.lt_of_lt_of_le hi hb.size) (fun e => hn (hr i e.symm hi))).trans (hb.block i hi hn)⟩
theorem Fr.from_alloc {S : Nat → Prop} (w : World) (o : Obj) : Fr S w (w.alloc o) := (Fr.refl S w).alloc o
/-- One thing appended to a row of one's own. -/
theorem append_oneV {t E : TypeId} (he : El t E) {w : World} {B : Nat} {v : Value} {ys : List Value} (x : Value) (ty : TypeId) (h : RowV E w B v ys) (h1 : x.oneCell' = true) (hB : B ≤ w.heap.size) (hl : ys.length + 1 ≤ 100000) :
    ∃ v' w', (Builtin.append_ #[t, t] ty #[v, .slice (some ⟨w.heap.size, 0, none⟩) 1 1]).run Try.prog (w.alloc (.cells #[x] E)) = .ok v' w' ∧ RowV E w' B v' (ys ++ [x]) ∧ (w.alloc (.cells #[x] E)).grownBy w' v.ownBlock ∧ (∀ k, v'.ownBlock = some k → v.ownBlock = some k ∨ w.heap.size ≤ k) ∧ ∀ S : Nat → Prop, (∀ k, v.ownBlock = some k → S k) → Fr S w w' := by
  have ha : Arg (w.alloc (.cells #[x] E)) (some ⟨w.heap.size, 0, none⟩) [x].length 1 (fun _ => x) :=
    ⟨Nat.le_refl _, by unfold maxLen; omega, .inr ⟨w.heap.size, 0, rfl, by simp, fun i hi => by
      have : i = 0 := by simp at hi; omega
      subst this
      rw [cell_of_row _ _ _ _ E (0, 0) (heap_alloc_new w _)]; rfl⟩⟩
  have hx : ∀ i, i < [x].length → [x][i]? = some x := fun i hi => by
    have : i = 0 := by simp at hi; omega
    subst this; rfl
  obtain ⟨v', w', hr, h2, hg, h3⟩ := append_rowV he ty (h.below ((Below.refl _ _).alloc (Nat.le_refl _) _)) ha hx (by simpa using h1) (by simp; omega) (by simpa using hl)
  exact ⟨v', w', hr, h2, hg, fun k hk => (h3 k hk).imp id (fun e => by simp at e; omega), fun S hS => grown_fr (Fr.from_alloc w _) hg (fun k hk _ => hS k hk)⟩
theorem make_rowV {t E : TypeId} (he : El t E) (n : Nat) (hn : n ≤ 100000) (w : World) : ∃ w', (Instr.makeSlice t (.int .i64 0) (.int .i64 (n : Int))).run Try.prog w = .ok (.slice (some ⟨w.heap.size, 0, none⟩) 0 n) w' ∧ RowV E w' w.heap.size (.slice (some ⟨w.heap.size, 0, none⟩) 0 n) [] ∧ Below w.heap.size w w' := by
  obtain ⟨i0, z0, by0, hi, hz0, hz1, hz2, hz3, hz4⟩ := he.info
  obtain ⟨w', h1, h2, hg⟩ := run_make_own (P := Try.prog) w w.heap.size t E i0 z0 1 he.un hi hz0 hz1 .i64 .i64 n (by
    have : i0.bytes * n ≤ 16 * 100000 := Nat.mul_le_mul (by omega) hn
    omega) (by unfold maxLen; omega) (Nat.le_refl _)
  exact ⟨w', h1, ⟨h2, by simp⟩, ⟨hg.os, hg.tape, hg.output, hg.size, fun k hk => hg.block k hk (fun e => by cases e)⟩⟩
open Go.RowKit Go.Shelf
set_option linter.unusedVariables false
set_option linter.unusedSimpArgs false

theorem elU8 : El 25 5 := by
  obtain ⟨i0, hi, hz0, hz1, hz2⟩ := info_parts info_u8
  exact ⟨Try.underlying25, i0, _, _, hi, hz0, hz1, hz2, rfl, by decide⟩
theorem RM.numF {T : TypeId} {z : Array Value} {w : World} {b : Nat} {t : List Bool × Int} {c : Array Value} {w' : World} (h : RM T z w b t c w') :
    Calls Try.prog 36 #[.pointer (some ⟨b, 0, none⟩), .int .i64 8] w' fun e w'' => ∃ (Y : Nat) (t2 : List Bool × Int), e = .returned (.int .i64 (Y : Int)) ∧ Y < 256 ∧ (Pg.rdS false t 0 (uns 8)).2 = t2 ∧ (t2.2 = 0 → (Pg.rdS false t 0 (uns 8)).1 = (Y : Int)) ∧ RM T z w b t2 c w'' ∧ Fr (fun k => k = b) w' w'' := by
  refine (numX h.rx 8 (by omega)).mono ?_
  rintro e w'' ⟨y, rfl, hn⟩
  have h0 : 0 ≤ y := hn.has.1
  have h1 : y ≤ 2 ^ 8 - 1 := hn.has.2
  obtain ⟨Y, rfl⟩ : ∃ Y : Nat, y = Y := ⟨y.toNat, by omega⟩
  have := h.hb
  exact ⟨Y, _, rfl, by omega, rfl, fun e => (hn.val e).symm, ⟨hn.rx, h.ax.same (hn.fr.block _ h.ax.lt (by omega)), h.bx.same (hn.fr.block _ h.bx.lt (by omega)), h.fr.trans hn.fr (fun _ _ e => e), h.hb⟩, hn.fr⟩
theorem RM.later {T : TypeId} {z : Array Value} {w : World} {b : Nat} {t : List Bool × Int} {c : Array Value} {w' w'' : World} {S : Nat → Prop} (h : RM T z w b t c w') (hf : Fr S w' w'') (hS : ∀ k, S k → w.heap.size + 1 < k) : RM T z w b t c w'' := by
  have := h.hb
  exact ⟨h.rx.fr hf (fun e => by have := hS _ e; omega), h.ax.same (hf.block _ h.ax.lt (fun e => by have := hS _ e; omega)), h.bx.same (hf.block _ h.bx.lt (fun e => by have := hS _ e; omega)), h.fr.trans hf (fun k hk e => by have := hS _ e; omega), h.hb⟩
/-- What the loop of a Snap keeps. -/
structure LX (C : Value → Array Value) (w : World) (b N : Nat) (t3 : List Bool × Int) (j : Nat) (acc : List Nat) (v : Value) (t : List Bool × Int) (wr : World) : Prop where
  rm : RM 40 zMsg w b t (C v) wr
  row : RowV 5 wr w.heap.size v (u8s acc)
  far : ∀ k, v.ownBlock = some k → w.heap.size + 1 < k
  byt : ∀ y ∈ acc, y < 256
  len : acc.length = j
  run : ∃ acc', (loadGo [] (N - j) acc').run Pg.rdS t = (loadGo [] N []).run Pg.rdS t3 ∧ (t.2 = 0 → acc = acc')
theorem LX.start {C : Value → Array Value} {w : World} {b N : Nat} {t3 : List Bool × Int} {wr : World} (h : RM 40 zMsg w b t3 (C (.slice none 0 0)) wr) : LX C w b N t3 0 [] (.slice none 0 0) t3 wr :=
  ⟨h, rowV_nil _ _ _, fun k hk => by simp [Value.ownBlock] at hk, by simp, rfl, [], rfl, fun _ => rfl⟩
/-- A byte more. -/
theorem LX.step {C : Value → Array Value} (hC : ∀ v v', (C v).setIfInBounds 22 v' = C v') {w : World} {b N : Nat} {t3 : List Bool × Int} {j : Nat} {acc : List Nat} {v : Value} {t t2 : List Bool × Int} {wr wq : World} {Y : Nat} (h : LX C w b N t3 j acc v t wr) (hj : j < N) (hN : N ≤ 1023) (hz : t.2 = 0)
    (hY : Y < 256) (he : (Pg.rdS false t 0 (uns 8)).2 = t2) (hv : t2.2 = 0 → (Pg.rdS false t 0 (uns 8)).1 = (Y : Int)) (hM : RM 40 zMsg w b t2 (C v) wq) (hf : Fr (fun k => k = b) wr wq) :
    ∃ p' q' w6, (Builtin.append_ #[25, 25] 25 #[v, .slice (some ⟨wq.heap.size, 0, none⟩) 1 1]).run Try.prog (wq.alloc (.cells #[.int .u8 (Y : Int)] 5)) = .ok (.slice p' (j + 1) q') w6
      ∧ RM 40 zMsg w b t2 (C v) w6 ∧ LX C w b N t3 (j + 1) (acc ++ [Y]) (.slice p' (j + 1) q') t2 (w6.setCell ⟨w.heap.size + 1, 22, none⟩ (.slice p' (j + 1) q')) := by
  have hb := hM.hb
  have hrow := h.row.frN hf (fun k hk e => by have := h.far k hk; omega)
  obtain ⟨v', w6, hrun, h2, hg, hat, hfr⟩ := append_oneV elU8 (.int .u8 (Y : Int)) 25 hrow rfl hM.fr.size (by rw [u8s_length, h.len]; omega)
  have e6 : u8s acc ++ [.int .u8 (Y : Int)] = u8s (acc ++ [Y]) := by rw [u8s_append]; rfl
  rw [e6] at h2
  obtain ⟨p', q', hv', _, _⟩ := h2.form
  rw [show (u8s (acc ++ [Y])).length = j + 1 by rw [u8s_length, List.length_append, h.len]; rfl] at hv'
  subst hv'
  have hM6 := hM.later (hfr (fun k => v.ownBlock = some k) (fun _ e => e)) (fun k hk => h.far k hk)
  have hwq := hM.bx.lt
  have hfar : ∀ k, (Value.slice p' (j + 1) q').ownBlock = some k → w.heap.size + 1 < k := fun k hk => by
    rcases hat k hk with e | e
    · exact h.far k e
    · omega
  refine ⟨p', q', w6, hrun, hM6, ?_, ?_, hfar, ?_, by rw [List.length_append, h.len]; rfl, ?_⟩
  · have := hM6.set 22 (.slice p' (j + 1) q')
    rwa [hC] at this
  · exact h2.frN (S := fun k => k = w.heap.size + 1) (Fr.setCell (S := fun k => k = w.heap.size + 1) (p := ⟨w.heap.size + 1, 22, none⟩) (Fr.refl _ _) rfl _) (fun k hk e => by have := hfar k hk; omega)
  · intro y hy
    rcases List.mem_append.1 hy with hy | hy
    · exact h.byt y hy
    · rw [List.mem_singleton] at hy; omega
  · obtain ⟨acc', hr, ha⟩ := h.run
    rw [show N - j = (N - (j + 1)) + 1 by omega] at hr
    refine ⟨acc' ++ [(Pg.rdS false t 0 (uns 8)).1.toNat], ?_, fun h0 => ?_⟩
    · rw [← hr, ← he]; rfl
    · rw [ha hz, hv h0, Int.toNat_natCast]
/-- Behind the loop. -/
theorem LX.end_ {C : Value → Array Value} {w : World} {b N : Nat} {t3 : List Bool × Int} {j : Nat} {acc : List Nat} {v : Value} {t : List Bool × Int} {wr : World} (h : LX C w b N t3 j acc v t wr) (hx : t.2 ≠ 0 ∨ j = N) :
    ((loadGo [] N []).run Pg.rdS t3).2 = t ∧ (t.2 = 0 → ((loadGo [] N []).run Pg.rdS t3).1 = acc) := by
  obtain ⟨acc', hr, ha⟩ := h.run
  rw [← hr]
  obtain ⟨ta, tb⟩ := t
  rcases hx with hx | hx
  · exact ⟨Pg.rd_err _ _ hx, fun e => absurd e hx⟩
  · subst hx
    rw [Nat.sub_self]
    exact ⟨rfl, fun e => (ha e).symm⟩
theorem fields9 (t : List Bool × Int) : (fieldsP (bare 0) 9).run Pg.rdS t = ({ bare 9 with tick := (Pg.rdS false t 0 (uns 32)).1, base := (Pg.rdS false (Pg.rdS false t 0 (uns 32)).2 0 (uns 32)).1, bytes := ((loadGo [] (Pg.rdS false (Pg.rdS false (Pg.rdS false t 0 (uns 32)).2 0 (uns 32)).2 0 (uns 10)).1.toNat []).run Pg.rdS (Pg.rdS false (Pg.rdS false (Pg.rdS false t 0 (uns 32)).2 0 (uns 32)).2 0 (uns 10)).2).1 }, ((loadGo [] (Pg.rdS false (Pg.rdS false (Pg.rdS false t 0 (uns 32)).2 0 (uns 32)).2 0 (uns 10)).1.toNat []).run Pg.rdS (Pg.rdS false (Pg.rdS false (Pg.rdS false t 0 (uns 32)).2 0 (uns 32)).2 0 (uns 10)).2).2) := by
  have : (fieldsP (bare 0) 9).run Pg.rdS t = (((loadGo [] (Pg.rdS false (Pg.rdS false (Pg.rdS false t 0 (uns 32)).2 0 (uns 32)).2 0 (uns 10)).1.toNat []).bind fun l => .ret { bare 9 with tick := (Pg.rdS false t 0 (uns 32)).1, base := (Pg.rdS false (Pg.rdS false t 0 (uns 32)).2 0 (uns 32)).1, bytes := l }).run Pg.rdS (Pg.rdS false (Pg.rdS false (Pg.rdS false t 0 (uns 32)).2 0 (uns 32)).2 0 (uns 10)).2) := rfl
  rw [this, Pg.run_bind]
  rfl
/-- All of a Snap. -/
theorem snap_end {C : Value → Array Value} {w : World} {b N : Nat} {t0 t1 t2 t3 : List Bool × Int} {y1 y2 : Int} {j : Nat} {acc : List Nat} {v : Value} {t : List Bool × Int} {wr : World} (e1 : (Pg.rdS false t0 0 (uns 32)).2 = t1) (e2 : (Pg.rdS false t1 0 (uns 32)).2 = t2) (e3 : (Pg.rdS false t2 0 (uns 10)).2 = t3)
    (v1 : t1.2 = 0 → (Pg.rdS false t0 0 (uns 32)).1 = y1) (v2 : t2.2 = 0 → (Pg.rdS false t1 0 (uns 32)).1 = y2) (v3 : t3.2 = 0 → (Pg.rdS false t2 0 (uns 10)).1 = (N : Int)) (h : LX C w b N t3 j acc v t wr) (hx : t.2 ≠ 0 ∨ j = N) :
    ((fieldsP (bare 0) 9).run Pg.rdS t0).2 = t ∧ (t.2 = 0 → ((fieldsP (bare 0) 9).run Pg.rdS t0).1 = { bare 9 with tick := y1, base := y2, bytes := acc }) := by
  obtain ⟨a1, a2⟩ := h.end_ hx
  rw [fields9]
  simp only [e1, e2, e3]
  by_cases hz : t3.2 = 0
  · have z2 : t2.2 = 0 := rdS_zero (by rw [e3]; exact hz)
    have z1 : t1.2 = 0 := rdS_zero (by rw [e2]; exact z2)
    rw [v3 hz, Int.toNat_natCast]
    exact ⟨a1, fun h0 => by rw [a2 h0, v1 z1, v2 z2]⟩
  · have a3 : ((loadGo [] N []).run Pg.rdS t3).2 = t3 := by obtain ⟨x, y⟩ := t3; exact Pg.rd_err _ _ hz
    have ht : t3 = t := a3.symm.trans a1
    refine ⟨?_, fun h0 => absurd (by rw [ht]; exact h0) hz⟩
    rw [← ht]
    obtain ⟨x, y⟩ := t3
    exact Pg.rd_err _ _ hz
theorem row_of {w : World} {B : Nat} {v : Value} {ys : List Nat} (h : RowV 5 w B v (u8s ys)) : Row w B v ys := ⟨by have := h.own; rw [u8s_length] at this; exact this⟩
open Go.RowKit Go.Shelf
set_option linter.unusedVariables false
set_option linter.unusedSimpArgs false
attribute [local go_sem ↓] Go.wp_at_zero Go.wp_at_succ
set_option maxRecDepth 100000 in
set_option maxHeartbeats 4000000 in
theorem messageX9 {w : World} {b : Nat} {l : List Bool} (h : RX w b (l, 0)) (hk : Pg.rdx false (tkv (l, 0) 4) = 9) :
    Calls Try.prog 38 #[.pointer (some ⟨b, 0, none⟩)] w fun e w' => MXP w b (l, 0) e w' := by
  have hst := kind_ok h hk (by omega) (by omega)
  obtain ⟨t0, ht0⟩ : ∃ q, (Pg.rdS false (l, 0) 0 rKind).2 = q := ⟨_, rfl⟩
  rw [ht0] at hst
  obtain ⟨hn4, hrun⟩ := hst
  have HRUN := hid hrun; have HT0 := hid ht0
  have hM := RM.start 40 zMsg h
  have HM := hid hM
  have hz : (w.alloc (.cells zMsg 40)).heap.size = w.heap.size + 1 := by simp
  clear hM h hrun ht0 hk
  go_enter Try.func38, Try.ntmps38
  go_wp2_with (refine wpList_store_row rfl 40 _ _ rfl (w.heap.size + 1) zMsg rfl rfl 40 zMsg (by rw [← hz]; exact heap_alloc_new _ _) size_msg rfl one23 ?_; rw [← hz, World.setRow_alloc_new, hz]; generalize (w.alloc (.cells zMsg 40)).alloc (.cells zMsg 40) = u0 at *)
  clear hz
  refine (HM.out.call (t2 := tk (l, 0) 4) hn4).mono ?_; rintro e wk ⟨rfl, hM⟩
  have tc := hM.bx.cell (i := 0) rfl
  have fc := hM.bx.thaw 0
  have hM2 := hM.set 0 (.int .i64 9)
  simp only [List.setIfInBounds_toArray, List.set_cons_zero, List.set_cons_succ] at hM2
  have pc := hM2.bx.cell (i := 0) rfl
  have HM2 := hid hM2
  clear hM hM2 HM hn4
  go_wp2_with fail
  clear tc fc pc
  refine (HM2.out.call (fun h => mustX h true)).mono ?_; rintro e wm ⟨rfl, hM⟩
  rw [mst_true] at hM
  have hM := hM.sub (HRUN.out.st)
  have HM := hid hM
  have pc := hM.bx.cell (i := 0) rfl
  clear hM HM2

  go_wp2_with fail
  clear pc
  refine (HM.out.num 32 (by omega)).mono ?_; rintro e w1 ⟨y1, t1, rfl, he, hv, hr, hM⟩
  have hr1 : 0 ≤ y1 ∧ y1 ≤ 4294967295 := ⟨hr.1, by have := hr.2; omega⟩
  have qw : IntKind.u32.wrap y1 = y1 := wrapU_u32 hr1.1 (by omega)
  clear hr
  have HE1 := hid he; have HV1 := hid hv
  have tc := hM.bx.cell (i := 20) rfl
  have fc := hM.bx.thaw 20
  have hM2 := hM.set 20 (.int .u32 y1)
  simp only [List.setIfInBounds_toArray, List.set_cons_zero, List.set_cons_succ] at hM2
  clear HM hM he hv
  have HM := hid hM2
  clear hM2
  go_wp2_with fail
  clear tc fc qw
  generalize (w1.setCell ⟨w.heap.size + 1, 20, none⟩ (.int .u32 y1)) = v1 at *
  refine (HM.out.num 32 (by omega)).mono ?_; rintro e w2 ⟨y2, t2, rfl, he, hv, hr, hM⟩
  have hr2 : 0 ≤ y2 ∧ y2 ≤ 4294967295 := ⟨hr.1, by have := hr.2; omega⟩
  have qw : IntKind.u32.wrap y2 = y2 := wrapU_u32 hr2.1 (by omega)
  clear hr
  have HE2 := hid he; have HV2 := hid hv
  have tc := hM.bx.cell (i := 21) rfl
  have fc := hM.bx.thaw 21
  have hM2 := hM.set 21 (.int .u32 y2)
  simp only [List.setIfInBounds_toArray, List.set_cons_zero, List.set_cons_succ] at hM2
  clear HM hM he hv
  have HM := hid hM2
  clear hM2
  go_wp2_with fail
  clear tc fc qw
  generalize (w2.setCell ⟨w.heap.size + 1, 21, none⟩ (.int .u32 y2)) = v2 at *
  refine (HM.out.num 10 (by omega)).mono ?_; rintro e w3 ⟨y3, t3, rfl, he, hv, hr, hM⟩
  have hr3 : 0 ≤ y3 ∧ y3 ≤ 1023 := ⟨hr.1, by have := hr.2; omega⟩
  obtain ⟨N, rfl⟩ : ∃ N : Nat, y3 = (N : Int) := ⟨y3.toNat, by omega⟩
  have HE3 := hid he; have HV3 := hid hv
  have hL := LX.start (C := fun v => #[.int .i64 9, .int .u16 0, .int .u16 0, .int .u8 0, .int .i8 0, .int .i8 0, .int .i64 0, .int .u16 0, .int .i64 0, .int .i64 0, .int .i64 0, .int .i64 0, .int .i64 0, .int .i64 0, .int .i64 0, .int .i64 0, .int .i64 0, .int .i64 0, .int .i64 0, .int .i64 0, .int .u32 y1, .int .u32 y2, v]) (N := N) hM
  have HL := hid hL
  have hC : ∀ v v' : Value, ((fun v => #[.int .i64 9, .int .u16 0, .int .u16 0, .int .u8 0, .int .i8 0, .int .i8 0, .int .i64 0, .int .u16 0, .int .i64 0, .int .i64 0, .int .i64 0, .int .i64 0, .int .i64 0, .int .i64 0, .int .i64 0, .int .i64 0, .int .i64 0, .int .i64 0, .int .i64 0, .int .i64 0, .int .u32 y1, .int .u32 y2, v]) v).setIfInBounds 22 v' = (fun v => #[.int .i64 9, .int .u16 0, .int .u16 0, .int .u8 0, .int .i8 0, .int .i8 0, .int .i64 0, .int .u16 0, .int .i64 0, .int .i64 0, .int .i64 0, .int .i64 0, .int .i64 0, .int .i64 0, .int .i64 0, .int .i64 0, .int .i64 0, .int .i64 0, .int .i64 0, .int .i64 0, .int .u32 y1, .int .u32 y2, v]) v' := fun v v' => rfl
  have HC := hid hC
  clear HM hM he hv hr hL hC
  go_wp2_with fail
  go_loopw [6] (fun i wr => ∃ (j q7 : Nat) (p7 : Option Addr) (acc : List Nat) (t : List Bool × Int), i = .int .i64 (j : Int) ∧ j ≤ N ∧ LX (fun v => #[.int .i64 9, .int .u16 0, .int .u16 0, .int .u8 0, .int .i8 0, .int .i8 0, .int .i64 0, .int .u16 0, .int .i64 0, .int .i64 0, .int .i64 0, .int .i64 0, .int .i64 0, .int .i64 0, .int .i64 0, .int .i64 0, .int .i64 0, .int .i64 0, .int .i64 0, .int .i64 0, .int .u32 y1, .int .u32 y2, v]) w b N t3 j acc (.slice p7 j q7) t wr) (fun i _ => N - (intOf i).toNat)
  case atStart => exact ⟨0, 0, none, [], t3, rfl, Nat.zero_le _, HL.out⟩
  case round =>
    obtain ⟨j, q7, p7, acc, t, rfl, hj, hL⟩ := hrel
    clear HL
    have ce := hL.rm.rx.err
    by_cases hlt : j < N ∧ t.2 = 0
    · obtain ⟨hlt, hz⟩ := hlt
      rw [hz] at ce
      have i1 : (j : Int) < (N : Int) := by omega
      have hnm := hL.rm.numF
      have hst := fun (Y : Nat) (t2 : List Bool × Int) (wq : World) => LX.step (Y := Y) (t2 := t2) (wq := wq) HC.out hL hlt (by omega) hz
      clear hL
      go_wp2_with fail
      refine hnm.mono ?_; rintro e w4 ⟨Y, t4, rfl, hY, he, hv, hM, hf⟩
      obtain ⟨p8, q8, w6, hrun, hM6, hL6⟩ := hst Y t4 w4 hY he hv hM hf
      have qw : IntKind.u8.wrap (Y : Int) = (Y : Int) := wrapU_u8 (by omega) (by omega)
      have tc := hM.bx.cell (i := 22) rfl
      have td := hM6.bx.cell (i := 22) rfl
      have fd := hM6.bx.thaw 22
      have HL6 := hid hL6
      clear hnm hst he hv hM hf hM6 hL6 ce
      go_wp2_with (at_builtin; refine Lib.wpList_append_run _ rfl _ _ _ _ rfl _ _ rfl rfl _ _ hrun ?_; clear hrun)
      go_roundw
      case rel => exact ⟨j + 1, q8, p8, _, t4, by go_num, by omega, HL6.out⟩
      case measure => simp [intOf]; omega
    · have hx : t.2 ≠ 0 ∨ j = N := by
        by_cases h0 : t.2 = 0
        · exact .inr (by omega)
        · exact .inl h0
      have hend := snap_end HE1.out HE2.out HE3.out HV1.out HV2.out HV3.out hL hx
      have HEND := hid hend; have HL := hid hL; have HM := hid hL.rm
      rcases hx with hx | hx
      · have i2 : (t.2 == 0) = false := beq_eq_false_iff_ne.2 hx
        clear hend hL
        by_cases hj2 : (j : Int) < (N : Int)
        · skip
          go_upto_region 38 with fail
          go_step
          refine wpList_load_row rfl 40 _ rfl (w.heap.size + 1) rfl 40 #[.int .i64 9, .int .u16 0, .int .u16 0, .int .u8 0, .int .i8 0, .int .i8 0, .int .i64 0, .int .u16 0, .int .i64 0, .int .i64 0, .int .i64 0, .int .i64 0, .int .i64 0, .int .i64 0, .int .i64 0, .int .i64 0, .int .i64 0, .int .i64 0, .int .i64 0, .int .i64 0, .int .u32 y1, .int .u32 y2, .slice p7 j q7] (0, 0) _ HM.out.bx.obj Try.underlying40 rfl size_msg ?_
          refine wpList_store_row rfl 40 _ _ rfl w.heap.size #[.int .i64 9, .int .u16 0, .int .u16 0, .int .u8 0, .int .i8 0, .int .i8 0, .int .i64 0, .int .u16 0, .int .i64 0, .int .i64 0, .int .i64 0, .int .i64 0, .int .i64 0, .int .i64 0, .int .i64 0, .int .i64 0, .int .i64 0, .int .i64 0, .int .i64 0, .int .i64 0, .int .u32 y1, .int .u32 y2, .slice p7 j q7] rfl rfl 40 zMsg HM.out.ax.obj size_msg rfl one23 ?_
          go_wp2_with fail
          have E := HM.out.ax.setRow #[.int .i64 9, .int .u16 0, .int .u16 0, .int .u8 0, .int .i8 0, .int .i8 0, .int .i64 0, .int .u16 0, .int .i64 0, .int .i64 0, .int .i64 0, .int .i64 0, .int .i64 0, .int .i64 0, .int .i64 0, .int .i64 0, .int .i64 0, .int .i64 0, .int .i64 0, .int .i64 0, .int .u32 y1, .int .u32 y2, .slice p7 j q7]
          have F3 : Fr (fun k => k = w.heap.size) wr (wr.setRow w.heap.size #[.int .i64 9, .int .u16 0, .int .u16 0, .int .u8 0, .int .i8 0, .int .i8 0, .int .i64 0, .int .u16 0, .int .i64 0, .int .i64 0, .int .i64 0, .int .i64 0, .int .i64 0, .int .i64 0, .int .i64 0, .int .i64 0, .int .i64 0, .int .i64 0, .int .i64 0, .int .i64 0, .int .u32 y1, .int .u32 y2, .slice p7 j q7]) := Fr.setRow (S := fun k => k = w.heap.size) (Fr.refl _ _) rfl _
          have hb := HM.out.hb
          have hR := HM.out.rx.fr F3 (by omega)
          have hF : Fr (fun k => k = b) w (wr.setRow w.heap.size #[.int .i64 9, .int .u16 0, .int .u16 0, .int .u8 0, .int .i8 0, .int .i8 0, .int .i64 0, .int .u16 0, .int .i64 0, .int .i64 0, .int .i64 0, .int .i64 0, .int .i64 0, .int .i64 0, .int .i64 0, .int .i64 0, .int .i64 0, .int .i64 0, .int .i64 0, .int .i64 0, .int .u32 y1, .int .u32 y2, .slice p7 j q7]) := ⟨F3.os.trans HM.out.fr.os, F3.tape.trans HM.out.fr.tape, F3.output.trans HM.out.fr.output, Nat.le_trans HM.out.fr.size F3.size, fun k hk hS => (F3.block k (Nat.lt_of_lt_of_le hk HM.out.fr.size) (by omega)).trans (HM.out.fr.block k hk hS)⟩
          refine bodyPost_ret (v := .agg #[.int .i64 9, .int .u16 0, .int .u16 0, .int .u8 0, .int .i8 0, .int .i8 0, .int .i64 0, .int .u16 0, .int .i64 0, .int .i64 0, .int .i64 0, .int .i64 0, .int .i64 0, .int .i64 0, .int .i64 0, .int .i64 0, .int .i64 0, .int .i64 0, .int .i64 0, .int .i64 0, .int .u32 y1, .int .u32 y2, .slice p7 j q7]) ?hres ?hdef ?_
          case hres => exact results_cell_row rfl _ _ w.heap.size 40 #[.int .i64 9, .int .u16 0, .int .u16 0, .int .u8 0, .int .i8 0, .int .i8 0, .int .i64 0, .int .u16 0, .int .i64 0, .int .i64 0, .int .i64 0, .int .i64 0, .int .i64 0, .int .i64 0, .int .i64 0, .int .i64 0, .int .i64 0, .int .i64 0, .int .i64 0, .int .i64 0, .int .u32 y1, .int .u32 y2, .slice p7 j q7] (0, 0) _ rfl E.obj Try.underlying40 rfl size_msg
          case hdef => rfl
          have hrow := (HL.out.row.frN F3 (fun k hk e => by have := HL.out.far k hk; omega))
          refine ⟨{ bare 9 with tick := y1, base := y2, bytes := acc }, .slice p7 j q7, rfl, MX.of HRUN.out HEND.out ⟨by simp [bare], by simp [bare, c0], by simp [bare, c0], by simp [bare, c0], by simp [bare, c0], by simp [bare], hr1, hr2, HL.out.byt⟩ (by have h1 := HL.out.len; show acc.length ≤ 1023; omega) (row_of hrow) hR hF⟩
        · skip
          go_upto_region 38 with fail
          go_step
          refine wpList_load_row rfl 40 _ rfl (w.heap.size + 1) rfl 40 #[.int .i64 9, .int .u16 0, .int .u16 0, .int .u8 0, .int .i8 0, .int .i8 0, .int .i64 0, .int .u16 0, .int .i64 0, .int .i64 0, .int .i64 0, .int .i64 0, .int .i64 0, .int .i64 0, .int .i64 0, .int .i64 0, .int .i64 0, .int .i64 0, .int .i64 0, .int .i64 0, .int .u32 y1, .int .u32 y2, .slice p7 j q7] (0, 0) _ HM.out.bx.obj Try.underlying40 rfl size_msg ?_
          refine wpList_store_row rfl 40 _ _ rfl w.heap.size #[.int .i64 9, .int .u16 0, .int .u16 0, .int .u8 0, .int .i8 0, .int .i8 0, .int .i64 0, .int .u16 0, .int .i64 0, .int .i64 0, .int .i64 0, .int .i64 0, .int .i64 0, .int .i64 0, .int .i64 0, .int .i64 0, .int .i64 0, .int .i64 0, .int .i64 0, .int .i64 0, .int .u32 y1, .int .u32 y2, .slice p7 j q7] rfl rfl 40 zMsg HM.out.ax.obj size_msg rfl one23 ?_
          go_wp2_with fail
          have E := HM.out.ax.setRow #[.int .i64 9, .int .u16 0, .int .u16 0, .int .u8 0, .int .i8 0, .int .i8 0, .int .i64 0, .int .u16 0, .int .i64 0, .int .i64 0, .int .i64 0, .int .i64 0, .int .i64 0, .int .i64 0, .int .i64 0, .int .i64 0, .int .i64 0, .int .i64 0, .int .i64 0, .int .i64 0, .int .u32 y1, .int .u32 y2, .slice p7 j q7]
          have F3 : Fr (fun k => k = w.heap.size) wr (wr.setRow w.heap.size #[.int .i64 9, .int .u16 0, .int .u16 0, .int .u8 0, .int .i8 0, .int .i8 0, .int .i64 0, .int .u16 0, .int .i64 0, .int .i64 0, .int .i64 0, .int .i64 0, .int .i64 0, .int .i64 0, .int .i64 0, .int .i64 0, .int .i64 0, .int .i64 0, .int .i64 0, .int .i64 0, .int .u32 y1, .int .u32 y2, .slice p7 j q7]) := Fr.setRow (S := fun k => k = w.heap.size) (Fr.refl _ _) rfl _
          have hb := HM.out.hb
          have hR := HM.out.rx.fr F3 (by omega)
          have hF : Fr (fun k => k = b) w (wr.setRow w.heap.size #[.int .i64 9, .int .u16 0, .int .u16 0, .int .u8 0, .int .i8 0, .int .i8 0, .int .i64 0, .int .u16 0, .int .i64 0, .int .i64 0, .int .i64 0, .int .i64 0, .int .i64 0, .int .i64 0, .int .i64 0, .int .i64 0, .int .i64 0, .int .i64 0, .int .i64 0, .int .i64 0, .int .u32 y1, .int .u32 y2, .slice p7 j q7]) := ⟨F3.os.trans HM.out.fr.os, F3.tape.trans HM.out.fr.tape, F3.output.trans HM.out.fr.output, Nat.le_trans HM.out.fr.size F3.size, fun k hk hS => (F3.block k (Nat.lt_of_lt_of_le hk HM.out.fr.size) (by omega)).trans (HM.out.fr.block k hk hS)⟩
          refine bodyPost_ret (v := .agg #[.int .i64 9, .int .u16 0, .int .u16 0, .int .u8 0, .int .i8 0, .int .i8 0, .int .i64 0, .int .u16 0, .int .i64 0, .int .i64 0, .int .i64 0, .int .i64 0, .int .i64 0, .int .i64 0, .int .i64 0, .int .i64 0, .int .i64 0, .int .i64 0, .int .i64 0, .int .i64 0, .int .u32 y1, .int .u32 y2, .slice p7 j q7]) ?hres ?hdef ?_
          case hres => exact results_cell_row rfl _ _ w.heap.size 40 #[.int .i64 9, .int .u16 0, .int .u16 0, .int .u8 0, .int .i8 0, .int .i8 0, .int .i64 0, .int .u16 0, .int .i64 0, .int .i64 0, .int .i64 0, .int .i64 0, .int .i64 0, .int .i64 0, .int .i64 0, .int .i64 0, .int .i64 0, .int .i64 0, .int .i64 0, .int .i64 0, .int .u32 y1, .int .u32 y2, .slice p7 j q7] (0, 0) _ rfl E.obj Try.underlying40 rfl size_msg
          case hdef => rfl
          have hrow := (HL.out.row.frN F3 (fun k hk e => by have := HL.out.far k hk; omega))
          refine ⟨{ bare 9 with tick := y1, base := y2, bytes := acc }, .slice p7 j q7, rfl, MX.of HRUN.out HEND.out ⟨by simp [bare], by simp [bare, c0], by simp [bare, c0], by simp [bare, c0], by simp [bare, c0], by simp [bare], hr1, hr2, HL.out.byt⟩ (by have h1 := HL.out.len; show acc.length ≤ 1023; omega) (row_of hrow) hR hF⟩
      · subst hx
        have i1 : ¬ (j : Int) < (j : Int) := by omega
        clear hend hL ce
        go_upto_region 38 with fail
        go_step
        refine wpList_load_row rfl 40 _ rfl (w.heap.size + 1) rfl 40 #[.int .i64 9, .int .u16 0, .int .u16 0, .int .u8 0, .int .i8 0, .int .i8 0, .int .i64 0, .int .u16 0, .int .i64 0, .int .i64 0, .int .i64 0, .int .i64 0, .int .i64 0, .int .i64 0, .int .i64 0, .int .i64 0, .int .i64 0, .int .i64 0, .int .i64 0, .int .i64 0, .int .u32 y1, .int .u32 y2, .slice p7 j q7] (0, 0) _ HM.out.bx.obj Try.underlying40 rfl size_msg ?_
        refine wpList_store_row rfl 40 _ _ rfl w.heap.size #[.int .i64 9, .int .u16 0, .int .u16 0, .int .u8 0, .int .i8 0, .int .i8 0, .int .i64 0, .int .u16 0, .int .i64 0, .int .i64 0, .int .i64 0, .int .i64 0, .int .i64 0, .int .i64 0, .int .i64 0, .int .i64 0, .int .i64 0, .int .i64 0, .int .i64 0, .int .i64 0, .int .u32 y1, .int .u32 y2, .slice p7 j q7] rfl rfl 40 zMsg HM.out.ax.obj size_msg rfl one23 ?_
        go_wp2_with fail
        have E := HM.out.ax.setRow #[.int .i64 9, .int .u16 0, .int .u16 0, .int .u8 0, .int .i8 0, .int .i8 0, .int .i64 0, .int .u16 0, .int .i64 0, .int .i64 0, .int .i64 0, .int .i64 0, .int .i64 0, .int .i64 0, .int .i64 0, .int .i64 0, .int .i64 0, .int .i64 0, .int .i64 0, .int .i64 0, .int .u32 y1, .int .u32 y2, .slice p7 j q7]
        have F3 : Fr (fun k => k = w.heap.size) wr (wr.setRow w.heap.size #[.int .i64 9, .int .u16 0, .int .u16 0, .int .u8 0, .int .i8 0, .int .i8 0, .int .i64 0, .int .u16 0, .int .i64 0, .int .i64 0, .int .i64 0, .int .i64 0, .int .i64 0, .int .i64 0, .int .i64 0, .int .i64 0, .int .i64 0, .int .i64 0, .int .i64 0, .int .i64 0, .int .u32 y1, .int .u32 y2, .slice p7 j q7]) := Fr.setRow (S := fun k => k = w.heap.size) (Fr.refl _ _) rfl _
        have hb := HM.out.hb
        have hR := HM.out.rx.fr F3 (by omega)
        have hF : Fr (fun k => k = b) w (wr.setRow w.heap.size #[.int .i64 9, .int .u16 0, .int .u16 0, .int .u8 0, .int .i8 0, .int .i8 0, .int .i64 0, .int .u16 0, .int .i64 0, .int .i64 0, .int .i64 0, .int .i64 0, .int .i64 0, .int .i64 0, .int .i64 0, .int .i64 0, .int .i64 0, .int .i64 0, .int .i64 0, .int .i64 0, .int .u32 y1, .int .u32 y2, .slice p7 j q7]) := ⟨F3.os.trans HM.out.fr.os, F3.tape.trans HM.out.fr.tape, F3.output.trans HM.out.fr.output, Nat.le_trans HM.out.fr.size F3.size, fun k hk hS => (F3.block k (Nat.lt_of_lt_of_le hk HM.out.fr.size) (by omega)).trans (HM.out.fr.block k hk hS)⟩
        refine bodyPost_ret (v := .agg #[.int .i64 9, .int .u16 0, .int .u16 0, .int .u8 0, .int .i8 0, .int .i8 0, .int .i64 0, .int .u16 0, .int .i64 0, .int .i64 0, .int .i64 0, .int .i64 0, .int .i64 0, .int .i64 0, .int .i64 0, .int .i64 0, .int .i64 0, .int .i64 0, .int .i64 0, .int .i64 0, .int .u32 y1, .int .u32 y2, .slice p7 j q7]) ?hres ?hdef ?_
        case hres => exact results_cell_row rfl _ _ w.heap.size 40 #[.int .i64 9, .int .u16 0, .int .u16 0, .int .u8 0, .int .i8 0, .int .i8 0, .int .i64 0, .int .u16 0, .int .i64 0, .int .i64 0, .int .i64 0, .int .i64 0, .int .i64 0, .int .i64 0, .int .i64 0, .int .i64 0, .int .i64 0, .int .i64 0, .int .i64 0, .int .i64 0, .int .u32 y1, .int .u32 y2, .slice p7 j q7] (0, 0) _ rfl E.obj Try.underlying40 rfl size_msg
        case hdef => rfl
        have hrow := (HL.out.row.frN F3 (fun k hk e => by have := HL.out.far k hk; omega))
        refine ⟨{ bare 9 with tick := y1, base := y2, bytes := acc }, .slice p7 j q7, rfl, MX.of HRUN.out HEND.out ⟨by simp [bare], by simp [bare, c0], by simp [bare, c0], by simp [bare, c0], by simp [bare, c0], by simp [bare], hr1, hr2, HL.out.byt⟩ (by have h1 := HL.out.len; show acc.length ≤ 1023; omega) (row_of hrow) hR hF⟩
end Go.Proofs.Ytneaanmchachlaa
