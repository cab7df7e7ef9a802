/- Generic: rows of bytes; strings of bytes; appends of bytes; the model's bit operations as plain ones. -/
import Derived.Test.YtablaoapbddhfaaDoorBtA
import Derived.Lib.SliceRun
import Derived.Lib.AppendZeros
import Derived.Laws.BytesArg
namespace Go.Proofs.YtablaoapbddhfaaDoor
open Go.RowKit Go.Shelf
set_option linter.unusedVariables false

def u8s (ys : List Nat) : List Value := ys.map fun (y : Nat) => .int .u8 (y : Int)
theorem u8s_length (ys : List Nat) : (u8s ys).length = ys.length := by simp [u8s]
theorem u8s_get (ys : List Nat) (i : Nat) (h : i < (u8s ys).length) : (u8s ys)[i] = .int .u8 ((ys.getD i 0 : Nat) : Int) := by
  have h' : i < ys.length := by rwa [u8s_length] at h
  simp [u8s, h']
theorem u8s_one (ys : List Nat) : ∀ u ∈ u8s ys, u.oneCell' = true := by
  intro u hu; obtain ⟨y, _, rfl⟩ := List.mem_map.1 hu; rfl
theorem u8s_append (ys zs : List Nat) : u8s (ys ++ zs) = u8s ys ++ u8s zs := by simp [u8s]
theorem u8s_set (ys : List Nat) (i y : Nat) : u8s (ys.set i y) = (u8s ys).set i (.int .u8 (y : Int)) := by simp [u8s, List.map_set]
/-- A row of bytes that is new, and one's own. -/
structure Row (w : World) (B : Nat) (v : Value) (ys : List Nat) : Prop where
  own : w.ownsRow B 5 1 v ys.length (u8s ys)
theorem Row.base {w : World} {B C : Nat} {v : Value} {ys : List Nat} (h : Row w B v ys) (hC : C ≤ B) : Row w C v ys := by
  refine ⟨h.own.1, ?_⟩
  rcases h.own.2 with hn | ⟨g, cap, cur, hv, hb, r⟩
  · exact .inl hn
  · exact .inr ⟨g, cap, cur, hv, Nat.le_trans hC hb, r⟩
theorem Row.fr {w w' : World} {B : Nat} {S : Nat → Prop} {v : Value} {ys : List Nat} (h : Row w B v ys) (hf : Fr S w w') (hS : ∀ k, S k → k < B) : Row w' B v ys := by
  refine ⟨h.own.1, ?_⟩
  rcases h.own.2 with hn | ⟨g, cap, cur, hv, hb, hg, r⟩
  · exact .inl hn
  · refine .inr ⟨g, cap, cur, hv, hb, ?_, r⟩
    rw [hf.block g (Array.getElem?_eq_some_iff.1 hg).1 (fun e => by have := hS g e; omega)]; exact hg
theorem Row.below {w w' : World} {B : Nat} {v : Value} {ys : List Nat} (h : Row w B v ys) (hf : Below w.heap.size w w') : Row w' B v ys := h.fr (S := fun _ => False) (Fr.of_below _ hf) (fun _ e => e.elim)
theorem Row.arg {w : World} {B : Nat} {v : Value} {ys : List Nat} (h : Row w B v ys) : ∃ p cap, v = .slice p ys.length cap ∧ (Arg w p ys.length cap fun i => .int .u8 ((ys.getD i 0 : Nat) : Int)) := by
  rcases h.own.2 with ⟨rfl, hl⟩ | ⟨g, cap, cur, rfl, hb, hg, h1, h2, h3, h4⟩
  · exact ⟨none, 0, by rw [hl], by omega, by unfold maxLen; omega, .inl hl⟩
  · refine ⟨_, cap, rfl, h1, h2, .inr ⟨g, 0, rfl, (Array.getElem?_eq_some_iff.1 hg).1, fun i hi => ?_⟩⟩
    rw [Nat.zero_add, cell_of_row w g i cur 5 (0, 0) hg]
    have hi' : i < ys.length * 1 := by omega
    have : (u8s ys)[i]? = cur.toList[i]? := by rw [← h4, List.getElem?_take, if_pos hi']
    rw [List.getElem?_eq_getElem (by rw [u8s_length]; exact hi), u8s_get] at this
    simpa using this.symm

theorem info_u8 : (Tryd.prog.info? 5).map (fun i => (i.zero, i.size, i.bytes)) = some (some (.int .u8 0), 1, 1) := by kernel_rfl
theorem own_empty (w : World) : (w.alloc (.cells #[] 5)).ownsRow w.heap.size 5 1 (.slice (some ⟨w.heap.size, 0, none⟩) 0 0) 0 [] :=
  ⟨rfl, .inr ⟨w.heap.size, 0, #[], rfl, Nat.le_refl _, heap_alloc_new w _, Nat.le_refl _, by unfold maxLen; omega, by simp, rfl⟩⟩
theorem grown_below {w w1 w2 : World} {r : Option Nat} (hb : Below w.heap.size w w1) (hg : w1.grownBy w2 r) (hr : ∀ k, r = some k → w.heap.size ≤ k) : Below w.heap.size w w2 :=
  ⟨hg.os.trans hb.os, hg.tape.trans hb.tape, hg.output.trans hb.output, Nat.le_trans hb.size hg.size, fun i hi => (hg.block i (Nat.lt_of_lt_of_le hi hb.size) (fun e => by have := hr i e.symm; omega)).trans (hb.block i hi)⟩
theorem wrap_u64 {n : Nat} (h : n < 2 ^ 64) : IntKind.u64.wrap (n : Int) = (n : Int) := by
  unfold IntKind.wrap
  simp only [IntKind.signed, Bool.false_and, IntKind.bits]
  rw [if_neg (by simp)]
  omega
theorem wrap_u8 {n : Nat} (h : n < 2 ^ 8) : IntKind.u8.wrap (n : Int) = (n : Int) := by
  unfold IntKind.wrap
  simp only [IntKind.signed, Bool.false_and, IntKind.bits]
  rw [if_neg (by simp)]
  omega
theorem wrap_i64 {n : Int} (h0 : -(2 ^ 63) ≤ n) (h : n < 2 ^ 63) : IntKind.i64.wrap n = n := by
  unfold IntKind.wrap
  simp only [IntKind.signed, IntKind.bits, Bool.true_and]
  split <;> rename_i hc <;> simp at hc <;> omega
theorem bits_and_u8 (a b : Nat) : bits .and .u8 (a : Int) (b : Int) = (((a % 2 ^ 8) &&& (b % 2 ^ 8) : Nat) : Int) := by
  have e : bits .and .u8 (a : Int) (b : Int) = IntKind.u8.wrap (((BitVec.ofInt 8 (a : Int)) &&& (BitVec.ofInt 8 (b : Int))).toNat : Int) := rfl
  rw [e, BitVec.ofInt_natCast, BitVec.ofInt_natCast, BitVec.toNat_and, BitVec.toNat_ofNat, BitVec.toNat_ofNat, wrap_u8]
  exact Nat.lt_of_le_of_lt Nat.and_le_left (Nat.mod_lt _ (by decide))
theorem div_pow_cast (x i : Nat) : (x : Int) / 2 ^ i = ((x / 2 ^ i : Nat) : Int) := by
  rw [Int.natCast_ediv, Int.natCast_pow]; rfl
/-- Bytes as a string. -/
def str (ys : List Nat) : ByteArray := strOfNums (ys.map fun (y : Nat) => (y : Int))
theorem str_size (ys : List Nat) : (str ys).size = ys.length := by unfold str; rw [strOfNums_size, List.length_map]
theorem conv_arg {w : World} {p : Option Addr} {cap : Nat} {ys : List Nat} (h : Arg w p ys.length cap fun i => .int .u8 ((ys.getD i 0 : Nat) : Int)) : (convert 22 9 (.slice p ys.length cap)).run Tryd.prog w = .ok (.string (str ys)) w := by
  rcases h.cells with h0 | ⟨b, o, rfl, _, hc⟩
  · have h1 : ys = [] := List.length_eq_zero_iff.1 h0
    subst h1
    show (convert 22 9 (.slice p 0 cap)).run Tryd.prog w = _
    rw [run_convert_bytes_string w 22 9 5 p 0 cap Tryd.underlying22 Tryd.underlying5 Tryd.underlying9]
    cases p <;> simp [Conv.bytesToString, str, strOfNums] <;> rfl
  · refine run_convert_bytes_arg w 22 5 Tryd.underlying22 Tryd.underlying5 b o ys.length cap (ys.map fun (y : Nat) => (y : Int)) (by simp) (fun i hi => ?_) _ Tryd.underlying9
    rw [hc i hi]
    simp [hi]
theorem conv_row {w : World} {B : Nat} {v : Value} {ys : List Nat} (h : Row w B v ys) : (convert 22 9 v).run Tryd.prog w = .ok (.string (str ys)) w := by
  obtain ⟨p, cap, rfl, ha⟩ := h.arg; exact conv_arg ha
theorem region_held {P : Program} {id : Nat} {Q : Exit → Act → World → Prop} {a : Act} {w : World} {l : List Oper} (S : World → Prop) (k : Nat) (hk : l.toArray.size = k) (hm : P.follows .mixedOrders = true) (hS : S w.drew)
    (h : S w.drew → wpAnyH P .any l.toArray (Only Q) S k (Array.replicate k false) a w.drew) : (Code.region id l.toArray true).wp P Q a w :=
  Code.wp_mono Only.imp (wp_region_held hm (by subst hk; exact h hS))
theorem mask {m x : Int} {k : Nat} (hm : m = ((2 ^ k - 1 : Nat) : Int)) (hk : k ≤ 62) : ∃ q : Nat, q < 2 ^ k ∧ bits .and .i64 x m = (q : Int) := by
  have hlt : 2 ^ k ≤ 2 ^ 62 := Nat.pow_le_pow_right (by decide) hk
  have e : bits .and .i64 x m = IntKind.i64.wrap (((BitVec.ofInt 64 x) &&& (BitVec.ofInt 64 m)).toNat : Int) := rfl
  have hpos : 0 < 2 ^ k := Nat.pow_pos (by decide)
  have hle : ((BitVec.ofInt 64 x) &&& (BitVec.ofInt 64 m)).toNat ≤ 2 ^ k - 1 := by
    rw [BitVec.toNat_and, hm, BitVec.ofInt_natCast, BitVec.toNat_ofNat, Nat.mod_eq_of_lt (by omega)]
    exact Nat.and_le_right
  refine ⟨((BitVec.ofInt 64 x) &&& (BitVec.ofInt 64 m)).toNat, by omega, ?_⟩
  rw [e]
  exact wrap_i64 (by omega) (by omega)
theorem u8_nat {n : Int} (h : (Lit.int .u8 n).wf = true) : ∃ q : Nat, n = (q : Int) ∧ q < 256 := by
  have h1 : 0 ≤ n ∧ n < 256 := by
    simp [Lit.wf, IntKind.min, IntKind.max, IntKind.signed, IntKind.bits] at h
    omega
  exact ⟨n.toNat, by omega, by omega⟩
/-- The first bytes of a slice that came in. -/
theorem Arg.bytes {w : World} {p : Option Addr} {n cap : Nat} {z : Nat → Int} (h : Arg w p n cap fun i => .int .u8 (z i)) (hz : ∀ i, (Lit.int .u8 (z i)).wf = true) {k : Nat} (hk : k ≤ n) :
    ∃ ys : List Nat, ys.length = k ∧ (∀ y ∈ ys, y < 256) ∧ Arg w p ys.length cap fun i => .int .u8 ((ys.getD i 0 : Nat) : Int) := by
  have hz2 : ∀ i, z i = ((z i).toNat : Int) ∧ (z i).toNat < 256 := fun i => by
    obtain ⟨q, h1, h2⟩ := u8_nat (hz i); rw [h1]; omega
  refine ⟨(List.range k).map fun i => (z i).toNat, by simp, ?_, ?_⟩
  · intro y hy
    obtain ⟨i, _, rfl⟩ := List.mem_map.1 hy
    exact (hz2 i).2
  · have hl : ((List.range k).map fun i => (z i).toNat).length = k := by simp
    rw [hl]
    refine ⟨Nat.le_trans hk h.le, h.most, ?_⟩
    rcases h.cells with h0 | ⟨b, o, hp, hb, hc⟩
    · exact .inl (by omega)
    · refine .inr ⟨b, o, hp, hb, fun i hi => ?_⟩
      rw [hc i (by omega), (hz2 i).1]
      simp [hi]
theorem append_none (w : World) (a : Addr) (p : Option Addr) (cap : Nat) (ty : TypeId) : (Builtin.append_ #[22, 22] ty #[.slice (some a) 0 0, .slice p 0 cap]).run Tryd.prog w = .ok (.slice (some a) 0 0) w := by
  obtain ⟨i0, hi, hz0, hz1, hz2⟩ := info_parts info_u8
  cases p <;> simp [Builtin.append_, run_underlying Tryd.underlying22, sizeOf, typeInfo, hi, storeCells, Builtin.lenOf, Builtin.firstCells, go_sem]
theorem append_any (w : World) (p : Option Addr) (cap : Nat) (ys : List Nat) (ty : TypeId) (h : Arg w p ys.length cap fun i => .int .u8 ((ys.getD i 0 : Nat) : Int)) (hl : ys.length ≤ 100000) :
    ∃ v w', (Builtin.append_ #[22, 22] ty #[.slice (some ⟨w.heap.size, 0, none⟩) 0 0, .slice p ys.length cap]).run Tryd.prog (w.alloc (.cells #[] 5)) = .ok v w' ∧ Row w' w.heap.size v ys ∧ Below w.heap.size w w' := by
  by_cases h0 : ys.length = 0
  · have hy : ys = [] := List.length_eq_zero_iff.1 h0
    subst hy
    exact ⟨_, _, append_none _ _ p cap ty, ⟨own_empty w⟩, (Below.refl _ _).alloc (Nat.le_refl _) _⟩
  · obtain ⟨b, o, rfl, hb, hc⟩ := h.at (i := 0) (by omega)
    obtain ⟨i0, hi, hz0, hz1, hz2⟩ := info_parts info_u8
    have hnews : ∀ j u, (u8s ys)[j]? = some u → (w.alloc (.cells #[] 5)).cell? ((⟨b, o, none⟩ : Addr).add j) = some u := by
      intro j u hu
      obtain ⟨hj, rfl⟩ := List.getElem?_eq_some_iff.1 hu
      rw [u8s_get, Addr.add_lit]
      exact Lib.cell?_alloc_some _ (hc j (by rwa [u8s_length] at hj))
    obtain ⟨g, cap', w', hr, ho, hg, _, _⟩ := run_append_lies (P := Tryd.prog) (w.alloc (.cells #[] 5)) 22 ty w.heap.size 5 i0 (.int .u8 0) 1 1 Tryd.underlying22 hi hz0 hz1 hz2 rfl (by decide) _ 0 [] (own_empty w) ⟨b, o, none⟩ ys.length cap (u8s ys) (by rw [u8s_length]; omega) hnews (u8s_one ys) (by omega) (by unfold maxLen; omega) (by omega) (by simp) (w.heap.size + 1) (by simp)
    rw [Nat.zero_add, List.nil_append] at ho
    rw [Nat.zero_add] at hr
    exact ⟨_, w', hr, ⟨ho⟩, grown_below ((Below.refl w.heap.size w).alloc (Nat.le_refl _) _) hg (by intro k hk; cases hk; exact Nat.le_refl _)⟩
theorem Row.at {w : World} {B : Nat} {v : Value} {ys : List Nat} (h : Row w B v ys) {j : Nat} (hj : j < ys.length) :
    ∃ g cap, v = .slice (some ⟨g, 0, none⟩) ys.length cap ∧ ys.length ≤ cap ∧ cap ≤ maxLen ∧ B ≤ g ∧ (∀ i, i < ys.length → w.cell? ⟨g, i, none⟩ = some (.int .u8 ((ys.getD i 0 : Nat) : Int))) ∧ (∀ i, w.frozen? ⟨g, i, none⟩ = false) := by
  rcases h.own.2 with ⟨rfl, hl⟩ | ⟨g, cap, cur, rfl, hb, hg, h1, h2, h3, h4⟩
  · omega
  · refine ⟨g, cap, rfl, h1, h2, hb, fun i hi => ?_, fun i => ?_⟩
    · rw [cell_of_row w g i cur 5 (0, 0) hg]
      have hi' : i < ys.length * 1 := by omega
      have : (u8s ys)[i]? = cur.toList[i]? := by rw [← h4, List.getElem?_take, if_pos hi']
      rw [List.getElem?_eq_getElem (by rw [u8s_length]; exact hi), u8s_get] at this
      simpa using this.symm
    · simp [World.frozen?, hg]
theorem Row.set {w : World} {B g cap n : Nat} {ys : List Nat} (h : Row w B (.slice (some ⟨g, 0, none⟩) n cap) ys) (j y : Nat) : Row (w.setCell ⟨g, j, none⟩ (.int .u8 (y : Int))) B (.slice (some ⟨g, 0, none⟩) n cap) (ys.set j y) := by
  refine ⟨?_⟩
  rw [u8s_set, List.length_set]
  refine ⟨by rw [List.length_set]; exact h.own.1, ?_⟩
  rcases h.own.2 with ⟨hn, _⟩ | ⟨g', cap', cur, hv, hb, hg, h2, h3, h4, h5⟩
  · cases hn
  · cases hv
    refine .inr ⟨g, cap, cur.setIfInBounds j (.int .u8 (y : Int)), rfl, hb, heap_set_same hg _, h2, h3, by simpa using h4, ?_⟩
    rw [Array.toList_setIfInBounds, List.take_set, h5]
/-- Nothing appended. -/
theorem append_nothing (w : World) (q p : Option Addr) (n c cap : Nat) (ty : TypeId) (hn : n ≤ c) : (Builtin.append_ #[22, 22] ty #[.slice q n c, .slice p 0 cap]).run Tryd.prog w = .ok (.slice q n c) w := by
  obtain ⟨i0, hi, hz0, hz1, hz2⟩ := info_parts info_u8
  cases p <;> cases q <;> simp [Builtin.append_, run_underlying Tryd.underlying22, sizeOf, typeInfo, hi, storeCells, Builtin.lenOf, Builtin.firstCells, go_sem, hn]
/-- Bytes appended to a row of one's own. -/
theorem append_row {w : World} {B : Nat} {v : Value} {ys zs : List Nat} {p : Option Addr} {cap : Nat} (ty : TypeId) (h : Row w B v ys) (ha : Arg w p zs.length cap fun i => .int .u8 ((zs.getD i 0 : Nat) : Int)) (hB : B ≤ w.heap.size) (hl : ys.length + zs.length ≤ 100000) :
    ∃ v' w', (Builtin.append_ #[22, 22] ty #[v, .slice p zs.length cap]).run Tryd.prog w = .ok v' w' ∧ Row w' B v' (ys ++ zs) ∧ Below B w w' := by
  by_cases h0 : zs.length = 0
  · have hy : zs = [] := List.length_eq_zero_iff.1 h0
    subst hy
    obtain ⟨q, c, rfl, hq⟩ := h.arg
    exact ⟨_, _, append_nothing w q p ys.length c cap ty hq.le, by rw [List.append_nil]; exact h, Below.refl _ _⟩
  · obtain ⟨b, o, rfl, hb, hc⟩ := ha.at (i := 0) (by omega)
    obtain ⟨i0, hi, hz0, hz1, hz2⟩ := info_parts info_u8
    have hnews : ∀ j u, (u8s zs)[j]? = some u → w.cell? ((⟨b, o, none⟩ : Addr).add j) = some u := by
      intro j u hu
      obtain ⟨hj, rfl⟩ := List.getElem?_eq_some_iff.1 hu
      rw [u8s_get, Addr.add_lit]
      exact hc j (by rwa [u8s_length] at hj)
    obtain ⟨g, cap', w', hr, ho, hg, _, _⟩ := run_append_lies (P := Tryd.prog) w 22 ty B 5 i0 (.int .u8 0) 1 1 Tryd.underlying22 hi hz0 hz1 hz2 rfl (by decide) v ys.length (u8s ys) h.own ⟨b, o, none⟩ zs.length cap (u8s zs) (by rw [u8s_length]; omega) hnews (u8s_one zs) (by omega) (by unfold maxLen; omega) (by omega) (by omega) w.heap.size rfl
    rw [← u8s_append, ← List.length_append] at ho
    refine ⟨_, w', hr, ⟨?_⟩, ?_⟩
    · rw [List.length_append] at ho ⊢; exact ho
    · exact ⟨hg.os, hg.tape, hg.output, hg.size, fun i hi => hg.block i (by omega) (fun e => by have := (h.own.lt i e.symm).1; omega)⟩
theorem row_new (w : World) : Row (w.alloc (.cells #[] 5)) w.heap.size (.slice (some ⟨w.heap.size, 0, none⟩) 0 0) [] := ⟨own_empty w⟩
theorem row_lit (w : World) (ys : List Nat) (hl : ys.length ≤ 100000) : Row (w.alloc (.cells (u8s ys).toArray 5)) w.heap.size (.slice (some ⟨w.heap.size, 0, none⟩) ys.length ys.length) ys :=
  ⟨⟨by rw [u8s_length]; omega, .inr ⟨w.heap.size, ys.length, (u8s ys).toArray, rfl, Nat.le_refl _, heap_alloc_new w _, Nat.le_refl _, by unfold maxLen; omega, by simp [u8s_length], by
    rw [List.take_of_length_le (by simp [u8s_length])]⟩⟩⟩
theorem u16_nat {n : Int} (h : (Lit.int .u16 n).wf = true) : ∃ q : Nat, n = (q : Int) ∧ q < 65536 := by
  have h1 : 0 ≤ n ∧ n < 65536 := by
    simp [Lit.wf, IntKind.min, IntKind.max, IntKind.signed, IntKind.bits] at h
    omega
  exact ⟨n.toNat, by omega, by omega⟩
theorem wrap_u16 {n : Nat} (h : n < 2 ^ 16) : IntKind.u16.wrap (n : Int) = (n : Int) := by
  unfold IntKind.wrap
  simp only [IntKind.signed, Bool.false_and, IntKind.bits]
  rw [if_neg (by simp)]
  omega
theorem bits_xor_u16 (a b : Nat) : bits .xor .u16 (a : Int) (b : Int) = (((a % 2 ^ 16) ^^^ (b % 2 ^ 16) : Nat) : Int) := by
  have e : bits .xor .u16 (a : Int) (b : Int) = IntKind.u16.wrap (((BitVec.ofInt 16 (a : Int)) ^^^ (BitVec.ofInt 16 (b : Int))).toNat : Int) := rfl
  rw [e, BitVec.ofInt_natCast, BitVec.ofInt_natCast, BitVec.toNat_xor, BitVec.toNat_ofNat, BitVec.toNat_ofNat, wrap_u16]
  exact Nat.xor_lt_two_pow (Nat.mod_lt _ (by decide)) (Nat.mod_lt _ (by decide))
theorem bits_xor_u8 (a b : Nat) : bits .xor .u8 (a : Int) (b : Int) = (((a % 2 ^ 8) ^^^ (b % 2 ^ 8) : Nat) : Int) := by
  have e : bits .xor .u8 (a : Int) (b : Int) = IntKind.u8.wrap (((BitVec.ofInt 8 (a : Int)) ^^^ (BitVec.ofInt 8 (b : Int))).toNat : Int) := rfl
  rw [e, BitVec.ofInt_natCast, BitVec.ofInt_natCast, BitVec.toNat_xor, BitVec.toNat_ofNat, BitVec.toNat_ofNat, wrap_u8]
  exact Nat.xor_lt_two_pow (Nat.mod_lt _ (by decide)) (Nat.mod_lt _ (by decide))
theorem bits_and_u16 (a b : Nat) : bits .and .u16 (a : Int) (b : Int) = (((a % 2 ^ 16) &&& (b % 2 ^ 16) : Nat) : Int) := by
  have e : bits .and .u16 (a : Int) (b : Int) = IntKind.u16.wrap (((BitVec.ofInt 16 (a : Int)) &&& (BitVec.ofInt 16 (b : Int))).toNat : Int) := rfl
  rw [e, BitVec.ofInt_natCast, BitVec.ofInt_natCast, BitVec.toNat_and, BitVec.toNat_ofNat, BitVec.toNat_ofNat, wrap_u16]
  exact Nat.lt_of_le_of_lt Nat.and_le_left (Nat.mod_lt _ (by decide))
end Go.Proofs.YtablaoapbddhfaaDoor
