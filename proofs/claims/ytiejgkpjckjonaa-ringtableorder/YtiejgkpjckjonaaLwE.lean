/- Layer 2 (ring): the walk of the law RingTableOrder. -/
import Derived.Test.YtiejgkpjckjonaaLwD
import Derived.Deep.Cut
namespace Go.Proofs.Ytiejgkpjckjonaa
open Go.RowKit Go.Shelf
set_option linter.unusedVariables false
attribute [local go_sem] Oper.semAt_some

theorem erase_filter {α : Type} (key : α → Nat) : ∀ (l : List α) (k : Nat) (hk : k < l.length), (∀ i j (hi : i < l.length) (hj : j < l.length), i ≠ j → key l[i] ≠ key l[j]) → l.eraseIdx k = l.filter (fun x => key x != key l[k])
  | [], k, hk, _ => by simp at hk
  | a :: r, 0, hk, h => by
    have h1 : r.filter (fun x => key x != key a) = r := by
      refine List.filter_eq_self.2 fun x hx => ?_
      obtain ⟨j, hj, rfl⟩ := List.getElem_of_mem hx
      have := h (j + 1) 0 (by simp; omega) (by simp) (by omega)
      simpa using this
    simp [h1]
  | a :: r, k + 1, hk, h => by
    have hk' : k < r.length := by simpa using hk
    have h1 := erase_filter key r k hk' (fun i j hi hj hij => by
      have := h (i + 1) (j + 1) (by simp; omega) (by simp; omega) (by omega)
      simpa using this)
    have h2 : key a ≠ key r[k] := by
      have := h 0 (k + 1) (by simp) (by simp; omega) (by omega)
      simpa using this
    rw [List.eraseIdx_cons_succ, h1]
    have h3 : (key a != key r[k]) = true := by simpa using h2
    simp [h3]
/-- What is left of them. -/
def leftOf (f : Nat → Value) (G : Nat → Bool) (N : Nat) : List (Nat × Value) := (tab f N).filter fun e => !G e.1
theorem rise_ne {es : List (Nat × Value)} (h : Rise es) : ∀ i j (hi : i < es.length) (hj : j < es.length), i ≠ j → es[i].1 ≠ es[j].1 := by
  intro i j hi hj hij
  rcases Nat.lt_or_ge i j with h1 | h1
  · have := h i j hj h1; omega
  · have := h j i hi (by omega); omega
def also (G : Nat → Bool) (d : Nat) : Nat → Bool := fun i => G i || i == d
theorem leftOf_drop {f : Nat → Value} {G : Nat → Bool} {N : Nat} {k d : Nat} (hr : Rise (leftOf f G N)) (hk : k < (leftOf f G N).length) (hd : (leftOf f G N)[k].1 = d) : (leftOf f G N).eraseIdx k = leftOf f (also G d) N := by
  rw [erase_filter (fun e : Nat × Value => e.1) _ k hk (rise_ne hr), hd]
  unfold leftOf
  rw [List.filter_filter]
  congr 1
  funext e
  unfold also
  cases G e.1 <;> simp [bne]
theorem leftOf_same {f : Nat → Value} {G : Nat → Bool} {N : Nat} {d : Nat} (h : ∀ k (hk : k < (leftOf f G N).length), (leftOf f G N)[k].1 ≠ d) : leftOf f (also G d) N = leftOf f G N := by
  have h1 : (leftOf f G N).filter (fun e => e.1 != d) = leftOf f G N := by
    refine List.filter_eq_self.2 fun x hx => ?_
    obtain ⟨j, hj, rfl⟩ := List.getElem_of_mem hx
    simpa using h j hj
  refine Eq.trans ?_ h1
  unfold leftOf
  rw [List.filter_filter]
  congr 1
  funext e
  unfold also
  cases G e.1 <;> simp [bne]
theorem leftOf_none (f : Nat → Value) (N : Nat) : leftOf f (fun _ => false) N = tab f N := by
  unfold leftOf
  exact List.filter_eq_self.2 fun x hx => rfl
theorem leftOf_succ (f : Nat → Value) (G : Nat → Bool) (N : Nat) : (leftOf f G (N + 1)).length = (leftOf f G N).length + (if G (N + 1) = true then 0 else 1) := by
  unfold leftOf
  rw [tab_succ, List.filter_append, List.length_append]
  cases h : G (N + 1) <;> simp [h]
theorem leftOf_le (f : Nat → Value) (G : Nat → Bool) (N : Nat) : (leftOf f G N).length ≤ N := by
  have := List.length_filter_le (fun e : Nat × Value => !G e.1) (tab f N)
  rw [tab_length] at this
  exact this
theorem leftOf_mem {f : Nat → Value} {G : Nat → Bool} {N : Nat} {e : Nat × Value} (h : e ∈ leftOf f G N) : 1 ≤ e.1 ∧ e.1 ≤ N ∧ G e.1 = false ∧ e.2 = f (e.1 - 1) := by
  unfold leftOf at h
  obtain ⟨h1, h2⟩ := List.mem_filter.1 h
  obtain ⟨j, hj, rfl⟩ := List.getElem_of_mem h1
  rw [tab_get] at h2 ⊢
  rw [tab_length] at hj
  exact ⟨by simp, by simp; omega, by simpa using h2, by simp⟩
theorem alln_leftOf (z : Nat → Int) (G : Nat → Bool) (N : Nat) : AllN (leftOf (fun i => .int .i64 (z i)) G N) := fun k hk => ⟨_, (leftOf_mem (List.getElem_mem hk)).2.2.2⟩
/-- A row of truths. -/
structure Gone (W : World) (g : Nat) (G : Nat → Bool) : Prop where
  row : ∃ cs : Array Value, W.heap[g]? = some (.cells cs 4 (0, 0)) ∧ cs.size = 300 ∧ ∀ i, i < 300 → cs[i]? = some (.bool (G i))
theorem Gone.cell {W : World} {g : Nat} {G : Nat → Bool} (h : Gone W g G) {i : Nat} (hi : i < 300) : W.cell? ⟨g, i, none⟩ = some (.bool (G i)) := by
  obtain ⟨cs, h1, h2, h3⟩ := h.row
  rw [cell_of_row W g i cs _ (0, 0) h1]; exact h3 i hi
theorem Gone.thaw {W : World} {g : Nat} {G : Nat → Bool} (h : Gone W g G) (i : Nat) : W.frozen? ⟨g, i, none⟩ = false := by
  obtain ⟨cs, h1, _⟩ := h.row
  simp [World.frozen?, h1]
theorem Gone.lt {W : World} {g : Nat} {G : Nat → Bool} (h : Gone W g G) : g < W.heap.size := by
  obtain ⟨cs, h1, _⟩ := h.row; exact (Array.getElem?_eq_some_iff.1 h1).1
theorem Gone.fr {W W' : World} {S : Nat → Prop} {g : Nat} {G : Nat → Bool} (h : Gone W g G) (hf : Fr S W W') (hS : ¬ S g) : Gone W' g G := by
  obtain ⟨cs, h1, r⟩ := h.row
  exact ⟨cs, by rw [hf.block g (Array.getElem?_eq_some_iff.1 h1).1 hS]; exact h1, r⟩
theorem Gone.keepC {W W' : World} {X : Nat → Prop} {g : Nat} {G : Nat → Bool} (h : Gone W g G) (hf : Kc X W W') (hX : ¬ X g) : Gone W' g G := by
  obtain ⟨cs, h1, r⟩ := h.row
  exact ⟨cs, hf.same g _ h1 rfl hX, r⟩
theorem Gone.set {W : World} {g : Nat} {G : Nat → Bool} (h : Gone W g G) (d : Nat) : Gone (W.setCell ⟨g, d, none⟩ (.bool true)) g (also G d) := by
  obtain ⟨cs, h1, h2, h3⟩ := h.row
  refine ⟨cs.setIfInBounds d (.bool true), heap_set_same h1 _, by simpa using h2, fun i hi => ?_⟩
  rw [Array.getElem?_setIfInBounds]
  unfold also
  split
  · rename_i e; subst e; simp [h2, hi]
  · rename_i e
    have : (i == d) = false := beq_eq_false_iff_ne.2 (fun e' => e e'.symm)
    rw [this, Bool.or_false]; exact h3 i hi
theorem info_B : (Try.prog.info? 4).map (fun i => (i.zero, i.size, i.bytes)) = some (some (.bool false), 1, 1) := by kernel_rfl
theorem gone_new (w : World) : ∃ cs, (∀ W : World, (Instr.makeSlice 74 (.int .i64 300) (.int .i64 300)).run Try.prog W = .ok (.slice (some ⟨W.heap.size, 0, none⟩) 300 300) (W.alloc (.cells cs 4))) ∧ ∀ W : World, Gone (W.alloc (.cells cs 4)) W.heap.size (fun _ => false) := by
  obtain ⟨i0, hi, hz0, hz1, hz2⟩ := info_parts info_B
  refine ⟨madeCells (Value.bool false).cells (300 * i0.size), fun W => ?_, fun W => ⟨_, heap_alloc_new W _, ?_, fun i hi => ?_⟩⟩
  · exact run_makeSlice (P := Try.prog) W 74 4 i0 (.bool false) Try.underlying74 hi hz0 .i64 .i64 300 300 (by omega) (by omega) (by rw [hz1]; decide) (by rw [hz2]; decide) (by omega)
  · rw [hz1]; simp [madeCells, Value.cells]
  · rw [hz1]; simp [madeCells, Value.cells, hi, Nat.mod_one]
/-- The id of the last one. -/
def lastId (pre : List (Int × Int)) : Int := (pre.getLast?.map Prod.fst).getD 0
theorem lastId_snoc (pre : List (Int × Int)) (x : Int × Int) : lastId (pre ++ [x]) = x.1 := by simp [lastId]
theorem order_ok {z : Nat → Int} {G : Nat → Bool} {k : Nat} (hr : Rise (leftOf (fun i => .int .i64 (z i)) G k)) {pre : List (Int × Int)} {x : Int × Int} (hp : (pre ++ [x]) <+: toP (leftOf (fun i => .int .i64 (z i)) G k)) : lastId pre < x.1 ∧ x.1 ≤ (k : Int) ∧ G x.1.toNat = false ∧ x.2 = z (x.1.toNat - 1) := by
  have hl := hp.length_le
  rw [List.length_append, toP_length] at hl
  have hlt : pre.length < (leftOf (fun i => Value.int .i64 (z i)) G k).length := by simp at hl; omega
  have hg : ∀ i (hi : i < (leftOf (fun i => Value.int .i64 (z i)) G k).length), (toP (leftOf (fun i => .int .i64 (z i)) G k))[i]? = some (((leftOf (fun i => Value.int .i64 (z i)) G k)[i].1 : Int), intOf (leftOf (fun i => Value.int .i64 (z i)) G k)[i].2) := fun i hi => by simp [toP, hi]
  have hlast : lastId pre < ((leftOf (fun i => Value.int .i64 (z i)) G k)[pre.length].1 : Int) := by
    rcases List.eq_nil_or_concat pre with e | ⟨r, y, e⟩
    · subst e
      have := (leftOf_mem (List.getElem_mem hlt)).1
      show (0 : Int) < _
      omega
    · rw [List.concat_eq_append] at e
      subst e
      rw [lastId_snoc]
      have hp2 : (r ++ [y]) <+: toP (leftOf (fun i => .int .i64 (z i)) G k) := (List.prefix_append _ _).trans hp
      have hrl : r.length < (leftOf (fun i => Value.int .i64 (z i)) G k).length := by simp at hlt; omega
      have hy : y = _ := pre_last hp2 (hg _ hrl)
      have := hr r.length (r ++ [y]).length hlt (by simp)
      have hy1 : y.1 = ((leftOf (fun i => Value.int .i64 (z i)) G k)[r.length].1 : Int) := congrArg Prod.fst hy
      rw [hy1]
      omega
  have hx : x = (((leftOf (fun i => Value.int .i64 (z i)) G k)[pre.length].1 : Int), intOf (leftOf (fun i => Value.int .i64 (z i)) G k)[pre.length].2) := pre_last hp (hg _ hlt)
  obtain ⟨m1, m2, m3, m4⟩ := leftOf_mem (List.getElem_mem hlt)
  rw [hx]
  exact ⟨hlast, by simpa using m2, by simpa using m3, by rw [m4]; simp [intOf]⟩
/-- Ways meet behind a statement. -/
theorem wp_cutR {P : Program} {c : Code} {K : Act → World → Prop} {Q : Exit → Act → World → Prop} {a : Act} {w : World} (R : Act → World → Prop) (h1 : c.wp P (Exit.then R (fun _ _ _ => False)) a w) (h2 : ∀ a' w', R a' w' → K a' w') : c.wp P (Exit.then K Q) a w := by
  refine Code.wp_mono ?_ h1
  intro e a' W h
  cases e with
  | normal => exact h2 _ _ h
  | _ => exact h.elim
/-- Ways meet behind a block. -/
theorem wp_cutL {P : Program} {c : Code} {id : Nat} {Q : Exit → Act → World → Prop} {a : Act} {w : World} (R : Act → World → Prop) (h1 : c.wp P (Exit.inBlock id (Exit.then R (fun _ _ _ => False))) a w) (h2 : ∀ a' w', R a' w' → Q .normal a' w') : c.wp P (Exit.inBlock id Q) a w := by
  refine Code.wp_mono ?_ h1
  intro e a' W h
  cases e with
  | normal => exact h2 _ _ h
  | exit j =>
    change (if j = id then R a' W else False) at h
    split at h
    · rename_i e; subst e
      show (if j = j then Q .normal a' W else _)
      rw [if_pos rfl]; exact h2 _ _ h
    · exact h.elim
  | _ => exact h.elim
set_option maxRecDepth 100000 in
set_option maxHeartbeats 4000000 in
theorem ringTableOrder_walk (p : Option Addr) (n cap : Nat) (z : Nat → Int) (p2 : Option Addr) (n2 cap2 : Nat) (y : Nat → Int) (w : World) (h : Arg w p n cap fun i => .int .i64 (z i)) (hz : ∀ i, (Lit.int .i64 (z i)).wf = true) (h2 : Arg w p2 n2 cap2 fun i => .int .u8 (y i)) (hy : ∀ i, (Lit.int .u8 (y i)).wf = true) :
    Calls Try.prog 9 #[.slice p n cap, .slice p2 n2 cap2] w fun e w' => e = .returned (.bool true) ∧ Below w.heap.size w w' := by
  have hle := h.le; have hmost := h.most; have hle2 := h2.le; have hmost2 := h2.most
  unfold maxLen at hmost hmost2
  have H := hid h
  have H2 := hid h2
  have HY : Hid (∀ i, 0 ≤ y i ∧ y i ≤ 255) := fun i => by
    have := hy i
    simp only [Lit.wf, Bool.and_eq_true, decide_eq_true_eq] at this
    exact this
  clear h hz h2 hy
  refine (callsIn_wide (n := 9)).1 ?_
  refine callsIn_of_wp_marks Try.func9 rfl trivial ?_ rfl
  simp only [Try.ntmps9, List.size_toArray, List.length_cons, List.length_nil, Nat.reduceAdd, Nat.reduceSub, Array.replicate_succ, Array.replicate_zero, List.push_toArray, List.append_toArray, List.nil_append, List.cons_append]
  refine wpIn_wide.2 ?_
  go_wp2_with fail
  have v0 := (Vr.new w 22 (.slice p n cap)).alloc (.cells #[.bool false] 4)
  have v2 := Vr.new (w.alloc (.cells #[.slice p n cap] 22)) 4 (.bool false)
  have hB0 : Below w.heap.size w ((w.alloc (.cells #[.slice p n cap] 22)).alloc (.cells #[.bool false] 4)) := ((Below.refl _ _).alloc (Nat.le_refl _) _).alloc (by simp) _
  have hsz : ((w.alloc (.cells #[.slice p n cap] 22)).alloc (.cells #[.bool false] 4)).heap.size = w.heap.size + 2 := by simp
  simp only [World.size_alloc] at v2
  generalize (w.alloc (.cells #[.slice p n cap] 22)).alloc (.cells #[.bool false] 4) = W0 at *
  have HV0 := hid v0; have HV2 := hid v2; have HSZ := hid hsz
  clear v0 v2 hsz
  refine (shown_any W0).mono ?_; rintro e w1 ⟨rfl, hB1⟩
  go_wp2_with fail
  refine (tabN_new 60 (by omega) (by omega) 60 rfl w1).mono ?_; rintro e w3 ⟨rfl, hT, b3⟩
  have hB3 := btrans hB1 b3
  have hs1 := hB1.size
  have hft : From W0.heap.size (fun k => k = w1.heap.size) := ⟨fun k h => by omega⟩
  obtain ⟨t, ht⟩ : ∃ t, w1.heap.size = t := ⟨_, rfl⟩
  rw [ht] at hT hft ⊢
  generalize (fun k => k = t) = S1 at hT hft
  clear b3 hB1 hs1 ht w1
  have u0 := HV0.out.below hB3 HV0.out.lt
  have c0 := u0.cell; have f0 := u0.thaw
  have HT := hid hT
  clear hT u0
  go_upto_region 5 with fail
  obtain ⟨R1, hR1⟩ : ∃ R1 : Act → World → Prop, R1 = (fun a' w' => ∃ (u0 u3 u7 u8 u9 u10 u11 u12 u13 u14 u15 u16 u17 u18 u19 u20 u21 u22 u23 u24 u25 u26 u27 u28 u29 u30 u31 u32 u33 u34 u35 u36 u37 u38 u39 u40 u41 u42 u43 u44 u45 u46 u47 u48 u49 u50 u51 u52 u53 u54 u55 u56 u57 u58 u59 u60 u61 u62 u63 u64 u65 u66 u67 u68 u69 u70 u71 u72 u73 u74 u75 u76 u77 u78 u79 u80 u81 u82 u83 u84 u85 u86 u87 u88 u89 u90 u91 u92 u93 u94 u95 u96 u97 u98 u99 u100 u101 u102 u103 u104 u105 u106 u107 u108 u109 u110 u111 u112 u113 : Value) (ds : List Deferred), (ds = [] ∧ ∃ N : Nat, (N ≤ n ∧ N ≤ 50 ∧ N ≤ cap) ∧ w' = w3.setCell ⟨w.heap.size, 0, none⟩ (.slice p N cap)) ∧ a' = { tmps := #[u0, .slice p2 n2 cap2, .pointer (some ⟨w.heap.size, 0, none⟩), u3, .pointer (some ⟨w.heap.size + 1, 0, none⟩), .bool true, .pointer (some ⟨t, 0, none⟩), u7, u8, u9, u10, u11, u12, u13, u14, u15, u16, u17, u18, u19, u20, u21, u22, u23, u24, u25, u26, u27, u28, u29, u30, u31, u32, u33, u34, u35, u36, u37, u38, u39, u40, u41, u42, u43, u44, u45, u46, u47, u48, u49, u50, u51, u52, u53, u54, u55, u56, u57, u58, u59, u60, u61, u62, u63, u64, u65, u66, u67, u68, u69, u70, u71, u72, u73, u74, u75, u76, u77, u78, u79, u80, u81, u82, u83, u84, u85, u86, u87, u88, u89, u90, u91, u92, u93, u94, u95, u96, u97, u98, u99, u100, u101, u102, u103, u104, u105, u106, u107, u108, u109, u110, u111, u112, u113], defers := ds }) := ⟨_, rfl⟩
  have HR1 := hid hR1
  clear hR1
  refine wp_cutR R1 ?_ ?_
  · go_wp2_with fail
    · rw [HR1.out]
      (repeat apply Exists.intro)
      refine ⟨?_, rfl⟩
      exact ⟨rfl, 50, by omega, rfl⟩
    · rw [HR1.out]
      (repeat apply Exists.intro)
      refine ⟨?_, rfl⟩
      exact ⟨rfl, n, by omega, rfl⟩
  · intro a' w4 hinv
    rw [HR1.out] at hinv
    clear HR1
    obtain ⟨u0, hinv⟩ := hinv
    obtain ⟨u3, hinv⟩ := hinv
    obtain ⟨u7, hinv⟩ := hinv
    obtain ⟨u8, hinv⟩ := hinv
    obtain ⟨u9, hinv⟩ := hinv
    obtain ⟨u10, hinv⟩ := hinv
    obtain ⟨u11, hinv⟩ := hinv
    obtain ⟨u12, hinv⟩ := hinv
    obtain ⟨u13, hinv⟩ := hinv
    obtain ⟨u14, hinv⟩ := hinv
    obtain ⟨u15, hinv⟩ := hinv
    obtain ⟨u16, hinv⟩ := hinv
    obtain ⟨u17, hinv⟩ := hinv
    obtain ⟨u18, hinv⟩ := hinv
    obtain ⟨u19, hinv⟩ := hinv
    obtain ⟨u20, hinv⟩ := hinv
    obtain ⟨u21, hinv⟩ := hinv
    obtain ⟨u22, hinv⟩ := hinv
    obtain ⟨u23, hinv⟩ := hinv
    obtain ⟨u24, hinv⟩ := hinv
    obtain ⟨u25, hinv⟩ := hinv
    obtain ⟨u26, hinv⟩ := hinv
    obtain ⟨u27, hinv⟩ := hinv
    obtain ⟨u28, hinv⟩ := hinv
    obtain ⟨u29, hinv⟩ := hinv
    obtain ⟨u30, hinv⟩ := hinv
    obtain ⟨u31, hinv⟩ := hinv
    obtain ⟨u32, hinv⟩ := hinv
    obtain ⟨u33, hinv⟩ := hinv
    obtain ⟨u34, hinv⟩ := hinv
    obtain ⟨u35, hinv⟩ := hinv
    obtain ⟨u36, hinv⟩ := hinv
    obtain ⟨u37, hinv⟩ := hinv
    obtain ⟨u38, hinv⟩ := hinv
    obtain ⟨u39, hinv⟩ := hinv
    obtain ⟨u40, hinv⟩ := hinv
    obtain ⟨u41, hinv⟩ := hinv
    obtain ⟨u42, hinv⟩ := hinv
    obtain ⟨u43, hinv⟩ := hinv
    obtain ⟨u44, hinv⟩ := hinv
    obtain ⟨u45, hinv⟩ := hinv
    obtain ⟨u46, hinv⟩ := hinv
    obtain ⟨u47, hinv⟩ := hinv
    obtain ⟨u48, hinv⟩ := hinv
    obtain ⟨u49, hinv⟩ := hinv
    obtain ⟨u50, hinv⟩ := hinv
    obtain ⟨u51, hinv⟩ := hinv
    obtain ⟨u52, hinv⟩ := hinv
    obtain ⟨u53, hinv⟩ := hinv
    obtain ⟨u54, hinv⟩ := hinv
    obtain ⟨u55, hinv⟩ := hinv
    obtain ⟨u56, hinv⟩ := hinv
    obtain ⟨u57, hinv⟩ := hinv
    obtain ⟨u58, hinv⟩ := hinv
    obtain ⟨u59, hinv⟩ := hinv
    obtain ⟨u60, hinv⟩ := hinv
    obtain ⟨u61, hinv⟩ := hinv
    obtain ⟨u62, hinv⟩ := hinv
    obtain ⟨u63, hinv⟩ := hinv
    obtain ⟨u64, hinv⟩ := hinv
    obtain ⟨u65, hinv⟩ := hinv
    obtain ⟨u66, hinv⟩ := hinv
    obtain ⟨u67, hinv⟩ := hinv
    obtain ⟨u68, hinv⟩ := hinv
    obtain ⟨u69, hinv⟩ := hinv
    obtain ⟨u70, hinv⟩ := hinv
    obtain ⟨u71, hinv⟩ := hinv
    obtain ⟨u72, hinv⟩ := hinv
    obtain ⟨u73, hinv⟩ := hinv
    obtain ⟨u74, hinv⟩ := hinv
    obtain ⟨u75, hinv⟩ := hinv
    obtain ⟨u76, hinv⟩ := hinv
    obtain ⟨u77, hinv⟩ := hinv
    obtain ⟨u78, hinv⟩ := hinv
    obtain ⟨u79, hinv⟩ := hinv
    obtain ⟨u80, hinv⟩ := hinv
    obtain ⟨u81, hinv⟩ := hinv
    obtain ⟨u82, hinv⟩ := hinv
    obtain ⟨u83, hinv⟩ := hinv
    obtain ⟨u84, hinv⟩ := hinv
    obtain ⟨u85, hinv⟩ := hinv
    obtain ⟨u86, hinv⟩ := hinv
    obtain ⟨u87, hinv⟩ := hinv
    obtain ⟨u88, hinv⟩ := hinv
    obtain ⟨u89, hinv⟩ := hinv
    obtain ⟨u90, hinv⟩ := hinv
    obtain ⟨u91, hinv⟩ := hinv
    obtain ⟨u92, hinv⟩ := hinv
    obtain ⟨u93, hinv⟩ := hinv
    obtain ⟨u94, hinv⟩ := hinv
    obtain ⟨u95, hinv⟩ := hinv
    obtain ⟨u96, hinv⟩ := hinv
    obtain ⟨u97, hinv⟩ := hinv
    obtain ⟨u98, hinv⟩ := hinv
    obtain ⟨u99, hinv⟩ := hinv
    obtain ⟨u100, hinv⟩ := hinv
    obtain ⟨u101, hinv⟩ := hinv
    obtain ⟨u102, hinv⟩ := hinv
    obtain ⟨u103, hinv⟩ := hinv
    obtain ⟨u104, hinv⟩ := hinv
    obtain ⟨u105, hinv⟩ := hinv
    obtain ⟨u106, hinv⟩ := hinv
    obtain ⟨u107, hinv⟩ := hinv
    obtain ⟨u108, hinv⟩ := hinv
    obtain ⟨u109, hinv⟩ := hinv
    obtain ⟨u110, hinv⟩ := hinv
    obtain ⟨u111, hinv⟩ := hinv
    obtain ⟨u112, hinv⟩ := hinv
    obtain ⟨u113, hinv⟩ := hinv
    obtain ⟨ds, ⟨rfl, N, hNc, hw4⟩, ha⟩ := hinv
    subst ha
    subst hw4
    have hsz := HSZ.out
    have hnS : ¬ S1 w.heap.size := fun e => by have := hft.le _ e; omega
    have hset : Fr (fun k => k = w.heap.size) w3 (w3.setCell ⟨w.heap.size, 0, none⟩ (.slice p N cap)) := (Fr.refl (fun k => k = w.heap.size) _).setCell (p := ⟨w.heap.size, 0, none⟩) rfl _
    have hT4 := HT.out.keep hset (fun k hk e => hnS (by rw [← e]; exact hk))
    have v0 := (HV0.out.below hB3 HV0.out.lt).set (.slice p N cap)
    have v2 := (HV2.out.below hB3 HV2.out.lt).other (c := w.heap.size) (o := 0) (by omega) (.slice p N cap)
    have hBW : Below w.heap.size w (w3.setCell ⟨w.heap.size, 0, none⟩ (.slice p N cap)) := (hB0.trans (hB3.mono (by omega))).setCell (p := ⟨w.heap.size, 0, none⟩) (Nat.le_refl _) _
    have hz4 : w.heap.size + 2 ≤ (w3.setCell ⟨w.heap.size, 0, none⟩ (.slice p N cap)).heap.size := by have := hB3.size; have e := hset.size; omega
    have hf4 : From (w.heap.size + 2) S1 := by rw [← hsz]; exact hft
    generalize w3.setCell ⟨w.heap.size, 0, none⟩ (.slice p N cap) = W4 at *
    have V0 := hid v0; have V2 := hid v2
    clear HT HV0 HV2 HSZ hsz hnS hset v0 v2 c0 f0 hB0 hB3 hft W0 w3
    go_wp2_with fail
    go_loopw [7] (fun i wr => ∃ (k : Nat) (S1 : Nat → Prop), i = .int .i64 k ∧ k ≤ N ∧ TableAt 88 90 2 wr S1 t 60 (tab (fun i => .int .i64 (z i)) k) k ∧ From (w.heap.size + 2) S1 ∧ Below (w.heap.size + 2) W4 wr) (fun i _ => N - (intOf i).toNat)
    case atStart => exact ⟨0, S1, rfl, Nat.zero_le _, hT4, hf4, Below.refl _ _⟩
    case round =>
      obtain ⟨k, S2, rfl, hk, hT5, hf5, hB5⟩ := hrel
      clear hT4 hf4
      have u0 := V0.out.below hB5 (by omega)
      have c0 := u0.cell
      by_cases hlt : k < N
      · have hki : (k : Int) < (N : Int) := by omega
        have hBr : Below w.heap.size w wr := hBW.trans (hB5.mono (by omega))
        obtain ⟨ab, ao, rfl, _, hcs⟩ := (Arg.keep H.out hBr).at (i := k) (by omega)
        have c1 := hcs k (by omega)
        have hA := addN_room S2 t 60 k _ (z k) wr hT5 (by rw [tab_length]; omega) (by omega)
        rw [← tab_succ (fun i => .int .i64 (z i))] at hA
        clear hcs hT5 u0
        go_wp2_with fail
        refine hA.mono ?_; rintro e w6 ⟨rfl, S4, hT7, hF7, hs7⟩
        have hz5 : w.heap.size + 2 ≤ wr.heap.size := by have := hB5.size; omega
        have hB7 := Below.fr hB5 hF7 hf5 hz5
        have hf7 := hf5.step hs7 hz5
        clear hA hF7 hs7
        go_wp2_with fail
        go_roundw
        case rel => exact ⟨k + 1, S4, by go_num, by omega, hT7, hf7, hB7⟩
        case measure => simp [intOf]; omega
      · obtain rfl : k = N := by omega
        have hki : ¬ (k : Int) < (k : Int) := by omega
        obtain ⟨cs, hmk, hgn⟩ := gone_new wr
        have hmk1 := hmk wr
        have HGN := hid hgn
        have HT5 := hid hT5
        clear hT5 hmk hgn
        go_wp2_with fail
        have hz5 : w.heap.size + 2 ≤ wr.heap.size := by have := hB5.size; omega
        have b6 : Below wr.heap.size wr ((wr.alloc (.cells cs 4)).alloc (.cells #[.slice (some ⟨wr.heap.size, 0, none⟩) 300 300] 74)) := ((Below.refl _ _).alloc (Nat.le_refl _) _).alloc (by simp) _
        have hT6 := HT5.out.below b6
        have v0 := u0.below b6 u0.lt
        have v2 := (V2.out.below hB5 (by omega)).below b6 (by omega)
        have hG6 : Gone ((wr.alloc (.cells cs 4)).alloc (.cells #[.slice (some ⟨wr.heap.size, 0, none⟩) 300 300] 74)) wr.heap.size (fun _ => false) := (HGN.out wr).fr (S := fun _ => False) ((Fr.refl _ _).alloc _) (fun e => e)
        have vG := Vr.new (wr.alloc (.cells cs 4)) 74 (.slice (some ⟨wr.heap.size, 0, none⟩) 300 300)
        simp only [World.size_alloc] at vG
        have hB6 : Below w.heap.size w ((wr.alloc (.cells cs 4)).alloc (.cells #[.slice (some ⟨wr.heap.size, 0, none⟩) 300 300] 74)) := (hBW.trans (hB5.mono (by omega))).trans (b6.mono (by omega))
        have hlS := HT5.out.lt
        generalize (wr.alloc (.cells cs 4)).alloc (.cells #[.slice (some ⟨wr.heap.size, 0, none⟩) 300 300] 74) = W6 at *
        generalize wr.heap.size = gg at *
        rw [← leftOf_none] at hT6
        clear HT5 HGN hmk1 b6 u0 c0 hlt hki V0 V2 hBW hz4 hB5 hk
        obtain ⟨R2, hR2⟩ : ∃ R2 : Act → World → Prop, R2 = (fun a' w' => ∃ (u0 u1 u3 u7 u9 u10 u11 u12 u13 u14 u15 u16 u17 u18 u19 u20 u21 u22 u23 u24 u25 u26 u27 u28 u29 u30 u31 u32 u33 u34 u35 u36 u37 u38 u39 u40 u41 u42 u43 u44 u45 u46 u47 u48 u49 u50 u51 u52 u53 u54 u55 u56 u57 u58 u59 u60 u61 u62 u63 u64 u65 u66 u67 u68 u69 u70 u71 u72 u73 u74 u75 u76 u77 u78 u79 u80 u81 u82 u83 u84 u85 u86 u87 u88 u89 u90 u91 u92 u93 u94 u95 u96 u97 u98 u99 u100 u101 u102 u103 u104 u105 u106 u107 u108 u109 u110 u111 u112 u113 : Value) (ds : List Deferred), (ds = [] ∧ ∃ (S3 : Nat → Prop) (G : Nat → Bool), TableAt 88 90 2 w' S3 t 60 (leftOf (fun i => .int .i64 (z i)) G k) k ∧ (From (w.heap.size + 2) S3 ∧ ¬ S3 gg ∧ ¬ S3 (gg + 1)) ∧ Gone w' gg G ∧ Vr w' w.heap.size 22 (.slice p k cap) ∧ Vr w' (w.heap.size + 1) 4 (.bool false) ∧ Vr w' (gg + 1) 74 (.slice (some ⟨gg, 0, none⟩) 300 300) ∧ Below w.heap.size w w') ∧ a' = { tmps := #[u0, u1, .pointer (some ⟨w.heap.size, 0, none⟩), u3, .pointer (some ⟨w.heap.size + 1, 0, none⟩), .bool true, .pointer (some ⟨t, 0, none⟩), u7, .pointer (some ⟨gg + 1, 0, none⟩), u9, u10, u11, u12, u13, u14, u15, u16, u17, u18, u19, u20, u21, u22, u23, u24, u25, u26, u27, u28, u29, u30, u31, u32, u33, u34, u35, u36, u37, u38, u39, u40, u41, u42, u43, u44, u45, u46, u47, u48, u49, u50, u51, u52, u53, u54, u55, u56, u57, u58, u59, u60, u61, u62, u63, u64, u65, u66, u67, u68, u69, u70, u71, u72, u73, u74, u75, u76, u77, u78, u79, u80, u81, u82, u83, u84, u85, u86, u87, u88, u89, u90, u91, u92, u93, u94, u95, u96, u97, u98, u99, u100, u101, u102, u103, u104, u105, u106, u107, u108, u109, u110, u111, u112, u113], defers := ds }) := ⟨_, rfl⟩
        have HR2 := hid hR2
        clear hR2
        refine wp_cutL R2 ?_ ?_
        · go_loopw [9] (fun i wr => ∃ (c : Nat) (S3 : Nat → Prop) (G : Nat → Bool), i = .int .i64 c ∧ (c ≤ n2 ∧ c ≤ 100) ∧ TableAt 88 90 2 wr S3 t 60 (leftOf (fun i => .int .i64 (z i)) G k) k ∧ (From (w.heap.size + 2) S3 ∧ ¬ S3 gg ∧ ¬ S3 (gg + 1)) ∧ Gone wr gg G ∧ Vr wr w.heap.size 22 (.slice p k cap) ∧ Vr wr (w.heap.size + 1) 4 (.bool false) ∧ Vr wr (gg + 1) 74 (.slice (some ⟨gg, 0, none⟩) 300 300) ∧ Below w.heap.size w wr) (fun i _ => 100 - (intOf i).toNat)
          case atStart => exact ⟨0, S2, fun _ => false, rfl, ⟨Nat.zero_le _, Nat.zero_le _⟩, hT6, ⟨hf5, fun e => by have := hlS _ e; omega, fun e => by have := hlS _ e; omega⟩, hG6, v0, v2, vG, hB6⟩
          case round =>
            obtain ⟨c, S3, G, rfl, ⟨hc1, hc2⟩, hT7, ⟨hf7, hn1, hn2⟩, hG7, v0, v2, vG, hB7⟩ := hrel
            clear hT6 hf5 hG6 hB6 hlS
            by_cases hlt : c < n2 ∧ c < 100
            · have i1 : (c : Int) < (n2 : Int) := by omega
              have i2 : (c : Int) < 100 := by omega
              obtain ⟨ab, ao, rfl, _, hcs⟩ := (Arg.keep H2.out hB7).at (i := c) (by omega)
              have c1 := hcs c (by omega)
              have hy := HY.out c
              obtain ⟨d, hd⟩ : ∃ d : Nat, y c = (d : Int) := ⟨(y c).toNat, by omega⟩
              rw [hd] at c1 hy
              have hP : Calls Try.prog 29 #[.pointer (some ⟨t, 0, none⟩), .int .i64 d] wr fun e w' => (∃ v, e = .returned v) ∧ ∃ S', TableAt 88 90 2 w' S' t 60 (leftOf (fun i => .int .i64 (z i)) (also G d) k) k ∧ Fr S3 wr w' ∧ Sub wr S3 S' := by
                rcases there_or (es := leftOf (fun i => Value.int .i64 (z i)) G k) (d : Int) with ⟨j, hj, hid⟩ | hid
                · refine (dropN_yes S3 t 60 k _ _ j hj wr hT7 (alln_leftOf z G k) hid).mono ?_
                  rintro e w' ⟨rfl, S', h1, h2, h3⟩
                  rw [leftOf_drop (d := d) hT7.rise hj (by omega)] at h1
                  exact ⟨⟨_, rfl⟩, S', h1, h2, h3⟩
                · refine (dropN_no S3 t 60 k _ _ wr hT7 (alln_leftOf z G k) hid).mono ?_
                  rintro e w' ⟨rfl, b1⟩
                  rw [leftOf_same (d := d) (fun k hk e => hid k hk (by omega))]
                  exact ⟨⟨_, rfl⟩, S3, hT7.below b1, Fr.of_below _ b1, sub_self _ _⟩
              have HG7 := hid hG7; have V0 := hid v0; have V2 := hid v2; have VG := hid vG
              have hcl : ab < w.heap.size := by
                obtain ⟨b', o', e', hl', _⟩ := H2.out.at (i := c) (by omega)
                cases e'; exact hl'
              clear hcs hd hT7 hG7 v0 v2 vG
              go_wp2_with fail
              refine hP.mono ?_; rintro e w8 ⟨⟨v, rfl⟩, S4, hT8, hF8, hs8⟩
              have hz7 : w.heap.size ≤ wr.heap.size := hB7.size
              have nb : ∀ j, j < w.heap.size + 2 → ¬ S3 j := fun j hj e => by have := hf7.le j e; omega
              have hG8 := HG7.out.fr hF8 hn1
              have v0 := V0.out.fr hF8 (nb _ (by omega))
              have v2 := V2.out.fr hF8 (nb _ (by omega))
              have vG := VG.out.fr hF8 hn2
              have hB8 : Below w.heap.size w w8 := hB7.trans (hF8.below hB7.size (fun j hj => by have := hf7.le j hj; omega))
              have hgl := HG7.out.lt
              have hgl2 := VG.out.lt
              have hn1' : ¬ S4 gg := fun e => (hs8 gg e).elim hn1 (fun e => by omega)
              have hn2' : ¬ S4 (gg + 1) := fun e => (hs8 _ e).elim hn2 (fun e => by omega)
              have hf8 : From (w.heap.size + 2) S4 := ⟨fun j hj => (hs8 j hj).elim (fun e => hf7.le j e) (fun e => by have := V2.out.lt; omega)⟩
              have c2 := (hB8.cell (p := ⟨ab, ao + c, none⟩) hcl).trans ((hB7.cell (p := ⟨ab, ao + c, none⟩) hcl).symm.trans c1)
              have c3 := vG.cell
              have c4 := hG8.cell (i := d) (by omega)
              have f4 := hG8.thaw d
              have i3 : (d : Int) < 300 := by omega
              have hgw : w.heap.size + 2 ≤ gg := hz5
              have HT8 := hid hT8; have HG8 := hid hG8; have V0 := hid v0; have V2 := hid v2; have VG := hid vG; have HB8 := hid hB8
              clear hP hF8 hs8 hT8 hG8 v0 v2 vG hB8 c1 nb hB7
              go_wp2_with fail
              go_region
              go_wp2_with fail
              go_roundw
              case rel =>
                refine ⟨c + 1, S4, also G d, by go_num, ⟨by omega, by omega⟩, ?_, ⟨hf8, hn1', hn2'⟩, ?_, ?_, ?_, ?_, ?_⟩
                · exact (HT8.out.below ((Below.refl _ _).drew)).keep (S' := fun j => j = gg) ((Fr.refl (fun j => j = gg) _).setCell (p := ⟨gg, d, none⟩) rfl _) (fun j hj e => hn1' (by rw [← e]; exact hj))
                · exact (HG8.out.fr (S := fun _ => False) (Fr.refl _ _).drew (fun e => e)).set d
                · exact (V0.out.fr (S := fun _ => False) (Fr.refl _ _).drew (fun e => e)).other (by omega) _
                · exact (V2.out.fr (S := fun _ => False) (Fr.refl _ _).drew (fun e => e)).other (by omega) _
                · exact (VG.out.fr (S := fun _ => False) (Fr.refl _ _).drew (fun e => e)).other (by omega) _
                · exact HB8.out.drew.setCell (p := ⟨gg, d, none⟩) (by show w.heap.size ≤ gg; omega) _
              case measure => simp [intOf]; omega
            · have HT7 := hid hT7; have HG7 := hid hG7; have V0 := hid v0; have V2 := hid v2; have VG := hid vG
              clear hT7 hG7 v0 v2 vG
              by_cases hcn : c < n2
              case' pos => have i2 : ¬ (c : Int) < 100 := by omega
              case' neg => have i2 : ¬ (c : Int) < (n2 : Int) := by omega
              all_goals
                go_wp2_with fail
                rw [HR2.out]
                (repeat apply Exists.intro)
                refine ⟨?_, rfl⟩
                exact ⟨rfl, S3, G, HT7.out, ⟨hf7, hn1, hn2⟩, HG7.out, V0.out, V2.out, VG.out, hB7⟩
        clear hT6 hf5 hG6 v0 v2 vG hB6 hlS
        intro a' w10 hinv
        rw [HR2.out] at hinv
        clear HR2
        obtain ⟨u0, hinv⟩ := hinv
        obtain ⟨u1, hinv⟩ := hinv
        obtain ⟨u3, hinv⟩ := hinv
        obtain ⟨u7, hinv⟩ := hinv
        obtain ⟨u9, hinv⟩ := hinv
        obtain ⟨u10, hinv⟩ := hinv
        obtain ⟨u11, hinv⟩ := hinv
        obtain ⟨u12, hinv⟩ := hinv
        obtain ⟨u13, hinv⟩ := hinv
        obtain ⟨u14, hinv⟩ := hinv
        obtain ⟨u15, hinv⟩ := hinv
        obtain ⟨u16, hinv⟩ := hinv
        obtain ⟨u17, hinv⟩ := hinv
        obtain ⟨u18, hinv⟩ := hinv
        obtain ⟨u19, hinv⟩ := hinv
        obtain ⟨u20, hinv⟩ := hinv
        obtain ⟨u21, hinv⟩ := hinv
        obtain ⟨u22, hinv⟩ := hinv
        obtain ⟨u23, hinv⟩ := hinv
        obtain ⟨u24, hinv⟩ := hinv
        obtain ⟨u25, hinv⟩ := hinv
        obtain ⟨u26, hinv⟩ := hinv
        obtain ⟨u27, hinv⟩ := hinv
        obtain ⟨u28, hinv⟩ := hinv
        obtain ⟨u29, hinv⟩ := hinv
        obtain ⟨u30, hinv⟩ := hinv
        obtain ⟨u31, hinv⟩ := hinv
        obtain ⟨u32, hinv⟩ := hinv
        obtain ⟨u33, hinv⟩ := hinv
        obtain ⟨u34, hinv⟩ := hinv
        obtain ⟨u35, hinv⟩ := hinv
        obtain ⟨u36, hinv⟩ := hinv
        obtain ⟨u37, hinv⟩ := hinv
        obtain ⟨u38, hinv⟩ := hinv
        obtain ⟨u39, hinv⟩ := hinv
        obtain ⟨u40, hinv⟩ := hinv
        obtain ⟨u41, hinv⟩ := hinv
        obtain ⟨u42, hinv⟩ := hinv
        obtain ⟨u43, hinv⟩ := hinv
        obtain ⟨u44, hinv⟩ := hinv
        obtain ⟨u45, hinv⟩ := hinv
        obtain ⟨u46, hinv⟩ := hinv
        obtain ⟨u47, hinv⟩ := hinv
        obtain ⟨u48, hinv⟩ := hinv
        obtain ⟨u49, hinv⟩ := hinv
        obtain ⟨u50, hinv⟩ := hinv
        obtain ⟨u51, hinv⟩ := hinv
        obtain ⟨u52, hinv⟩ := hinv
        obtain ⟨u53, hinv⟩ := hinv
        obtain ⟨u54, hinv⟩ := hinv
        obtain ⟨u55, hinv⟩ := hinv
        obtain ⟨u56, hinv⟩ := hinv
        obtain ⟨u57, hinv⟩ := hinv
        obtain ⟨u58, hinv⟩ := hinv
        obtain ⟨u59, hinv⟩ := hinv
        obtain ⟨u60, hinv⟩ := hinv
        obtain ⟨u61, hinv⟩ := hinv
        obtain ⟨u62, hinv⟩ := hinv
        obtain ⟨u63, hinv⟩ := hinv
        obtain ⟨u64, hinv⟩ := hinv
        obtain ⟨u65, hinv⟩ := hinv
        obtain ⟨u66, hinv⟩ := hinv
        obtain ⟨u67, hinv⟩ := hinv
        obtain ⟨u68, hinv⟩ := hinv
        obtain ⟨u69, hinv⟩ := hinv
        obtain ⟨u70, hinv⟩ := hinv
        obtain ⟨u71, hinv⟩ := hinv
        obtain ⟨u72, hinv⟩ := hinv
        obtain ⟨u73, hinv⟩ := hinv
        obtain ⟨u74, hinv⟩ := hinv
        obtain ⟨u75, hinv⟩ := hinv
        obtain ⟨u76, hinv⟩ := hinv
        obtain ⟨u77, hinv⟩ := hinv
        obtain ⟨u78, hinv⟩ := hinv
        obtain ⟨u79, hinv⟩ := hinv
        obtain ⟨u80, hinv⟩ := hinv
        obtain ⟨u81, hinv⟩ := hinv
        obtain ⟨u82, hinv⟩ := hinv
        obtain ⟨u83, hinv⟩ := hinv
        obtain ⟨u84, hinv⟩ := hinv
        obtain ⟨u85, hinv⟩ := hinv
        obtain ⟨u86, hinv⟩ := hinv
        obtain ⟨u87, hinv⟩ := hinv
        obtain ⟨u88, hinv⟩ := hinv
        obtain ⟨u89, hinv⟩ := hinv
        obtain ⟨u90, hinv⟩ := hinv
        obtain ⟨u91, hinv⟩ := hinv
        obtain ⟨u92, hinv⟩ := hinv
        obtain ⟨u93, hinv⟩ := hinv
        obtain ⟨u94, hinv⟩ := hinv
        obtain ⟨u95, hinv⟩ := hinv
        obtain ⟨u96, hinv⟩ := hinv
        obtain ⟨u97, hinv⟩ := hinv
        obtain ⟨u98, hinv⟩ := hinv
        obtain ⟨u99, hinv⟩ := hinv
        obtain ⟨u100, hinv⟩ := hinv
        obtain ⟨u101, hinv⟩ := hinv
        obtain ⟨u102, hinv⟩ := hinv
        obtain ⟨u103, hinv⟩ := hinv
        obtain ⟨u104, hinv⟩ := hinv
        obtain ⟨u105, hinv⟩ := hinv
        obtain ⟨u106, hinv⟩ := hinv
        obtain ⟨u107, hinv⟩ := hinv
        obtain ⟨u108, hinv⟩ := hinv
        obtain ⟨u109, hinv⟩ := hinv
        obtain ⟨u110, hinv⟩ := hinv
        obtain ⟨u111, hinv⟩ := hinv
        obtain ⟨u112, hinv⟩ := hinv
        obtain ⟨u113, hinv⟩ := hinv
        obtain ⟨ds, ⟨rfl, S3, G, hT7, ⟨hf7, hn1, hn2⟩, hG7, v0, v2, vG, hB7⟩, ha⟩ := hinv
        subst ha
        have HT7 := hid hT7; have HG7 := hid hG7; have V0 := hid v0; have V2 := hid v2; have VG := hid vG
        clear hT7 hG7 v0 v2 vG
        go_wp2_with fail
        obtain ⟨R3, hR3⟩ : ∃ R3 : Act → World → Prop, R3 = (fun a' w' => ∃ (u0 u1 u3 u7 u9 u10 u11 u12 u13 u14 u15 u16 u17 u18 u19 u20 u21 u22 u23 u24 u25 u26 u27 u28 u29 u30 u31 u32 u33 u34 u35 u36 u37 u38 u39 u40 u41 u42 u43 u44 u45 u46 u47 u48 u49 u50 u51 u52 u53 u54 u55 u56 u57 u58 u59 u60 u61 u62 u63 u64 u65 u66 u67 u68 u69 u70 u71 u72 u73 u74 u75 u76 u77 u78 u79 u80 u81 u82 u83 u84 u85 u86 u87 u88 u89 u90 u91 u92 u93 u94 u95 u96 u97 u98 u99 u100 u101 u102 u103 u104 u105 u106 u107 u108 u109 u110 u111 u112 u113 : Value) (ds : List Deferred), (∃ (kk : Nat) (Ds : List Nat), u10 = .int .i64 kk ∧ kk ≤ 2 ∧ ds = Ds.map mark ∧ (Marks w' Ds ∧ Ds.Nodup ∧ ∀ D ∈ Ds, w.heap.size ≤ D) ∧ TableAt 88 90 2 w' S3 t 60 (leftOf (fun i => .int .i64 (z i)) G k) k ∧ Gone w' gg G ∧ Vr w' w.heap.size 22 (.slice p k cap) ∧ Vr w' (w.heap.size + 1) 4 (.bool false) ∧ Vr w' (gg + 1) 74 (.slice (some ⟨gg, 0, none⟩) 300 300) ∧ Below w.heap.size w w') ∧ a' = { tmps := #[u0, u1, .pointer (some ⟨w.heap.size, 0, none⟩), u3, .pointer (some ⟨w.heap.size + 1, 0, none⟩), .bool true, .pointer (some ⟨t, 0, none⟩), u7, .pointer (some ⟨gg + 1, 0, none⟩), u9, u10, u11, u12, u13, u14, u15, u16, u17, u18, u19, u20, u21, u22, u23, u24, u25, u26, u27, u28, u29, u30, u31, u32, u33, u34, u35, u36, u37, u38, u39, u40, u41, u42, u43, u44, u45, u46, u47, u48, u49, u50, u51, u52, u53, u54, u55, u56, u57, u58, u59, u60, u61, u62, u63, u64, u65, u66, u67, u68, u69, u70, u71, u72, u73, u74, u75, u76, u77, u78, u79, u80, u81, u82, u83, u84, u85, u86, u87, u88, u89, u90, u91, u92, u93, u94, u95, u96, u97, u98, u99, u100, u101, u102, u103, u104, u105, u106, u107, u108, u109, u110, u111, u112, u113], defers := ds }) := ⟨_, rfl⟩
        have HR3 := hid hR3
        clear hR3
        refine wp_loop R3 (fun a' _ => 2 - (intOf (a'.tmps.getD 10 undef)).toNat) ?_ ?_
        · rw [HR3.out]
          (repeat apply Exists.intro)
          refine ⟨?_, rfl⟩
          exact ⟨0, [], rfl, by omega, rfl, ⟨fun D hD => absurd hD (by simp), List.nodup_nil, fun D hD => absurd hD (by simp)⟩, HT7.out, HG7.out, V0.out, V2.out, VG.out, hB7⟩
        · intro a' wq hinv
          rw [HR3.out] at hinv
          obtain ⟨u0, hinv⟩ := hinv
          obtain ⟨u1, hinv⟩ := hinv
          obtain ⟨u3, hinv⟩ := hinv
          obtain ⟨u7, hinv⟩ := hinv
          obtain ⟨u9, hinv⟩ := hinv
          obtain ⟨u10, hinv⟩ := hinv
          obtain ⟨u11, hinv⟩ := hinv
          obtain ⟨u12, hinv⟩ := hinv
          obtain ⟨u13, hinv⟩ := hinv
          obtain ⟨u14, hinv⟩ := hinv
          obtain ⟨u15, hinv⟩ := hinv
          obtain ⟨u16, hinv⟩ := hinv
          obtain ⟨u17, hinv⟩ := hinv
          obtain ⟨u18, hinv⟩ := hinv
          obtain ⟨u19, hinv⟩ := hinv
          obtain ⟨u20, hinv⟩ := hinv
          obtain ⟨u21, hinv⟩ := hinv
          obtain ⟨u22, hinv⟩ := hinv
          obtain ⟨u23, hinv⟩ := hinv
          obtain ⟨u24, hinv⟩ := hinv
          obtain ⟨u25, hinv⟩ := hinv
          obtain ⟨u26, hinv⟩ := hinv
          obtain ⟨u27, hinv⟩ := hinv
          obtain ⟨u28, hinv⟩ := hinv
          obtain ⟨u29, hinv⟩ := hinv
          obtain ⟨u30, hinv⟩ := hinv
          obtain ⟨u31, hinv⟩ := hinv
          obtain ⟨u32, hinv⟩ := hinv
          obtain ⟨u33, hinv⟩ := hinv
          obtain ⟨u34, hinv⟩ := hinv
          obtain ⟨u35, hinv⟩ := hinv
          obtain ⟨u36, hinv⟩ := hinv
          obtain ⟨u37, hinv⟩ := hinv
          obtain ⟨u38, hinv⟩ := hinv
          obtain ⟨u39, hinv⟩ := hinv
          obtain ⟨u40, hinv⟩ := hinv
          obtain ⟨u41, hinv⟩ := hinv
          obtain ⟨u42, hinv⟩ := hinv
          obtain ⟨u43, hinv⟩ := hinv
          obtain ⟨u44, hinv⟩ := hinv
          obtain ⟨u45, hinv⟩ := hinv
          obtain ⟨u46, hinv⟩ := hinv
          obtain ⟨u47, hinv⟩ := hinv
          obtain ⟨u48, hinv⟩ := hinv
          obtain ⟨u49, hinv⟩ := hinv
          obtain ⟨u50, hinv⟩ := hinv
          obtain ⟨u51, hinv⟩ := hinv
          obtain ⟨u52, hinv⟩ := hinv
          obtain ⟨u53, hinv⟩ := hinv
          obtain ⟨u54, hinv⟩ := hinv
          obtain ⟨u55, hinv⟩ := hinv
          obtain ⟨u56, hinv⟩ := hinv
          obtain ⟨u57, hinv⟩ := hinv
          obtain ⟨u58, hinv⟩ := hinv
          obtain ⟨u59, hinv⟩ := hinv
          obtain ⟨u60, hinv⟩ := hinv
          obtain ⟨u61, hinv⟩ := hinv
          obtain ⟨u62, hinv⟩ := hinv
          obtain ⟨u63, hinv⟩ := hinv
          obtain ⟨u64, hinv⟩ := hinv
          obtain ⟨u65, hinv⟩ := hinv
          obtain ⟨u66, hinv⟩ := hinv
          obtain ⟨u67, hinv⟩ := hinv
          obtain ⟨u68, hinv⟩ := hinv
          obtain ⟨u69, hinv⟩ := hinv
          obtain ⟨u70, hinv⟩ := hinv
          obtain ⟨u71, hinv⟩ := hinv
          obtain ⟨u72, hinv⟩ := hinv
          obtain ⟨u73, hinv⟩ := hinv
          obtain ⟨u74, hinv⟩ := hinv
          obtain ⟨u75, hinv⟩ := hinv
          obtain ⟨u76, hinv⟩ := hinv
          obtain ⟨u77, hinv⟩ := hinv
          obtain ⟨u78, hinv⟩ := hinv
          obtain ⟨u79, hinv⟩ := hinv
          obtain ⟨u80, hinv⟩ := hinv
          obtain ⟨u81, hinv⟩ := hinv
          obtain ⟨u82, hinv⟩ := hinv
          obtain ⟨u83, hinv⟩ := hinv
          obtain ⟨u84, hinv⟩ := hinv
          obtain ⟨u85, hinv⟩ := hinv
          obtain ⟨u86, hinv⟩ := hinv
          obtain ⟨u87, hinv⟩ := hinv
          obtain ⟨u88, hinv⟩ := hinv
          obtain ⟨u89, hinv⟩ := hinv
          obtain ⟨u90, hinv⟩ := hinv
          obtain ⟨u91, hinv⟩ := hinv
          obtain ⟨u92, hinv⟩ := hinv
          obtain ⟨u93, hinv⟩ := hinv
          obtain ⟨u94, hinv⟩ := hinv
          obtain ⟨u95, hinv⟩ := hinv
          obtain ⟨u96, hinv⟩ := hinv
          obtain ⟨u97, hinv⟩ := hinv
          obtain ⟨u98, hinv⟩ := hinv
          obtain ⟨u99, hinv⟩ := hinv
          obtain ⟨u100, hinv⟩ := hinv
          obtain ⟨u101, hinv⟩ := hinv
          obtain ⟨u102, hinv⟩ := hinv
          obtain ⟨u103, hinv⟩ := hinv
          obtain ⟨u104, hinv⟩ := hinv
          obtain ⟨u105, hinv⟩ := hinv
          obtain ⟨u106, hinv⟩ := hinv
          obtain ⟨u107, hinv⟩ := hinv
          obtain ⟨u108, hinv⟩ := hinv
          obtain ⟨u109, hinv⟩ := hinv
          obtain ⟨u110, hinv⟩ := hinv
          obtain ⟨u111, hinv⟩ := hinv
          obtain ⟨u112, hinv⟩ := hinv
          obtain ⟨u113, hinv⟩ := hinv
          obtain ⟨ds, ⟨kk, Ds, rfl, hkk, rfl, ⟨hMs, hNd, hDs⟩, hT9, hG9, v0, v2, vG, hB9⟩, ha⟩ := hinv
          subst ha
          clear HT7 HG7 V0 V2 VG hB7
          have HT9 := hid hT9; have HG9 := hid hG9; have V0 := hid v0; have V2 := hid v2; have VG := hid vG; have HMs := hid hMs; have HB9 := hid hB9
          clear hT9 hG9 v0 v2 vG hMs hB9
          by_cases hkl : kk < 2
          · have j1 : (kk : Int) < 2 := by omega
            go_wp2_with fail
            have bq : Below wq.heap.size wq ((wq.alloc (.cells #[.int .i64 0] 3)).alloc (.cells #[.int .i64 0] 3)) := ((Below.refl _ _).alloc (Nat.le_refl _) _).alloc (by simp) _
            have vL := (Vr.new wq 3 (.int .i64 0)).alloc (.cells #[.int .i64 0] 3)
            have vN := Vr.new (wq.alloc (.cells #[.int .i64 0] 3)) 3 (.int .i64 0)
            simp only [World.size_alloc] at vN
            have hTa := HT9.out.below bq
            have hGa := HG9.out.fr (Fr.of_below (fun _ => False) bq) (fun e => e)
            have v0 := V0.out.below bq V0.out.lt
            have v2 := V2.out.below bq V2.out.lt
            have vG := VG.out.below bq VG.out.lt
            have hMa := HMs.out.below bq
            have hBa := HB9.out.trans (bq.mono HB9.out.size)
            have hlt3 := HT9.out.lt
            have l0 := V0.out.lt; have l2 := V2.out.lt; have lG := VG.out.lt; have lg := HG9.out.lt
            generalize (wq.alloc (.cells #[.int .i64 0] 3)).alloc (.cells #[.int .i64 0] 3) = Wa at *
            generalize wq.heap.size = Lb at *
            clear HT9 HG9 V0 V2 VG HMs HB9 bq
            refine (tAllN _ Wa).mono ?_; rintro e Wb ⟨rfl, hwb⟩
            have bb : Below Wa.heap.size Wa Wb := by rw [hwb]; exact (Below.refl _ _).alloc (Nat.le_refl _) _
            have hBn : Vr Wb Wa.heap.size 43 (.pointer (some ⟨t, 0, none⟩)) := by rw [hwb]; exact Vr.new Wa _ _
            have hTb := hTa.below bb
            have hGb := hGa.fr (Fr.of_below (fun _ => False) bb) (fun e => e)
            replace v0 := v0.below bb v0.lt
            replace v2 := v2.below bb v2.lt
            replace vG := vG.below bb vG.lt
            replace vL := vL.below bb vL.lt
            replace vN := vN.below bb vN.lt
            have hMb := hMa.below bb
            have hBb := hBa.trans (bb.mono hBa.size)
            obtain ⟨Cn, hCn⟩ : ∃ Cn, Wa.heap.size = Cn := ⟨_, rfl⟩
            rw [hCn] at hBn ⊢
            clear hwb bb hTa hGa hMa hBa hCn
            obtain ⟨ey, hey⟩ : ∃ ey, toP (leftOf (fun i => .int .i64 (z i)) G k) = ey := ⟨_, rfl⟩
            have heyl : ey.length = (leftOf (fun i => Value.int .i64 (z i)) G k).length := by rw [← hey, toP_length]
            have hlk := leftOf_le (fun i => Value.int .i64 (z i)) G k
            have hok : ∀ (pre : List (Int × Int)) (x : Int × Int), (pre ++ [x]) <+: ey → lastId pre < x.1 ∧ x.1 ≤ (k : Int) ∧ G x.1.toNat = false ∧ x.2 = z (x.1.toNat - 1) := fun pre x hp => order_ok hTb.rise (by rw [hey]; exact hp)
            have hstops := tAllN_stops Fence.wide 8 trivial rfl (by decide) (fun j => j = Lb ∨ j = Lb + 1 ∨ j = w.heap.size + 1) S3 Cn t 60 k _ Wb hTb (alln_leftOf z G k) hBn.cell hBn.lt (fun j hj e => by have := hf7.le j hj; have := hlt3 j hj; omega) (fun j hj => by rcases hj with rfl | rfl | rfl; exact vL.lt; exact vN.lt; exact v2.lt)
            rw [hey, ← heyl] at hstops
            have hDb : ∀ D ∈ Ds, D < Wb.heap.size := fun D hD => (Array.getElem?_eq_some_iff.1 (hMb D hD)).1
            have HOK := hid hok
            have HTb := hid hTb; have HGb := hid hGb; have V0 := hid v0; have V2 := hid v2; have VG := hid vG; have VL := hid vL; have VN := hid vN; have HMb := hid hMb
            clear hok hey hTb hGb v0 v2 vG vL vN hMb hBn
            go_wp2_with fail
            refine wp_meet (fun D W => ((w.heap.size ≤ D ∧ D ∉ Ds) ∧ W.heap[D]? = some (.deferred (some []))) ∧ Marks W Ds ∧ Vr W (Lb + 1) 3 (.int .i64 (ey.length : Nat)) ∧ Vr W (w.heap.size + 1) 4 (.bool false) ∧ Kc (fun j => j = Lb ∨ j = Lb + 1 ∨ j = w.heap.size + 1) Wb W ∧ Below w.heap.size w W) ?_ ?_
            · refine (wpIn_wide (n := 9)).1 (wpIn_rangeFunc_ownF rfl (by decide) (gf := 45) (lb := #[.pointer (some ⟨Cn, 0, none⟩)]) rfl trivial (enters_of Try.func45 (by kernel_rfl) rfl) hstops Kc.trans (Kc.putObj _) (Below.refl _ _) (fun _ => rfl)
                (fun pre W => (0 ≤ lastId pre ∧ lastId pre ≤ (k : Int)) ∧ Vr W Lb 3 (.int .i64 (lastId pre)) ∧ Vr W (Lb + 1) 3 (.int .i64 (pre.length : Nat)) ∧ Vr W (w.heap.size + 1) 4 (.bool false) ∧ Kc (fun j => j = Lb ∨ j = Lb + 1 ∨ j = w.heap.size + 1) Wb W ∧ Below w.heap.size w W ∧ Marks W Ds)
                (fun c pre W => ¬ pre <+: ey)
                (OwnFrom.and own_pure (OwnFrom.and own_vr (OwnFrom.and own_vr (OwnFrom.and own_vr (OwnFrom.and own_kc (OwnFrom.and (ownFrom_below (Nat.le_refl _) hBb.size) (own_marks hDb)))))))
                (fun c => own_pure)
                ⟨⟨by decide, by show (0 : Int) ≤ (k : Int); omega⟩, VL.out, VN.out, V2.out, Kc.refl _ _, hBb, HMb.out⟩ ?_ ?_ ?_ ?_ ?_)
              rotate_left
              · intro l x W K hK
                gi_wp2
                exact hK
              · rintro l pre ⟨x1, x2⟩ W ⟨⟨hl0, hlk1⟩, vL, vN, v2, hkc, hBW, hM⟩ hlen
                have hnx : ∀ j, j < Lb → ¬ j = w.heap.size + 1 → ¬ (j = Lb ∨ j = Lb + 1 ∨ j = w.heap.size + 1) := fun j h1 h2 h3 => by omega
                have u0 := V0.out.keepC hkc (hnx _ l0 (by omega))
                have uG := VG.out.keepC hkc (hnx _ lG (by omega))
                have hG := HGb.out.keepC hkc (hnx _ lg (by omega))
                have c0 := u0.cell; have cG := uG.cell; have cL := vL.cell; have fL := vL.thaw; have cN := vN.cell; have fN := vN.thaw; have c2 := v2.cell; have f2 := v2.thaw
                have hgo : ∀ W', Vr W' Lb 3 (.int .i64 x1) → Vr W' (Lb + 1) 3 (.int .i64 ((pre.length : Int) + 1)) → Vr W' (w.heap.size + 1) 4 (.bool false) → Kc (fun j => j = Lb ∨ j = Lb + 1 ∨ j = w.heap.size + 1) W W' → Below w.heap.size w W' → Marks W' Ds → 0 ≤ x1 → x1 ≤ (k : Int) → (0 ≤ lastId (pre ++ [(x1, x2)]) ∧ lastId (pre ++ [(x1, x2)]) ≤ (k : Int)) ∧ Vr W' Lb 3 (.int .i64 (lastId (pre ++ [(x1, x2)]))) ∧ Vr W' (Lb + 1) 3 (.int .i64 ((pre ++ [(x1, x2)]).length : Nat)) ∧ Vr W' (w.heap.size + 1) 4 (.bool false) ∧ Kc (fun j => j = Lb ∨ j = Lb + 1 ∨ j = w.heap.size + 1) Wb W' ∧ Below w.heap.size w W' ∧ Marks W' Ds := by
                  intro W' k1 k2 k3 k4 k5 k6 k7 k8
                  rw [lastId_snoc]
                  refine ⟨⟨k7, k8⟩, k1, ?_, k3, hkc.trans k4, k5, k6⟩
                  rw [List.length_append, Int.natCast_add]; exact k2
                have hno : ¬ (lastId pre < x1 ∧ x1 ≤ (k : Int) ∧ G x1.toNat = false ∧ x2 = z (x1.toNat - 1)) → ¬ (pre ++ [(x1, x2)]) <+: ey := fun hx hp => hx (HOK.out pre (x1, x2) hp)
                obtain ⟨la, hla⟩ : ∃ la, lastId pre = la := ⟨_, rfl⟩
                rw [hla] at cL hl0 hlk1 hno
                have HGO := hid hgo; have HNO := hid hno
                have HVL := hid vL; have HVN := hid vN; have HV2 := hid v2; have HBW := hid hBW; have HMM := hid hM; have HGG := hid hG
                have hpl : (pre.length : Int) ≤ 50 := by omega
                clear hstops hgo hno vL vN v2 hkc hM hG hla hnx hlen
                by_cases q1 : x1 ≤ la
                · have HX := hid (HNO.out (fun h => by omega))
                  gi_wp2
                  exact ⟨KeepsOthers.setCell _ _ _, HX.out⟩
                by_cases q2 : (k : Int) < x1
                · have HX := hid (HNO.out (fun h => by omega))
                  gi_wp2
                  exact ⟨KeepsOthers.setCell _ _ _, HX.out⟩
                obtain ⟨i, hi⟩ : ∃ i : Nat, x1 = (i : Int) := ⟨x1.toNat, by omega⟩
                subst hi
                have c5 := HGG.out.cell (i := i) (by omega)
                have i5 : (i : Int) < 300 := by omega
                obtain ⟨g, hg⟩ : ∃ g, G i = g := ⟨_, rfl⟩
                rw [hg] at c5
                obtain ⟨j, hj⟩ : ∃ j : Nat, (i : Int) - 1 = (j : Int) := ⟨i - 1, by omega⟩
                have hj' : i - 1 = j := by omega
                cases g with
                | true =>
                  have HX := hid (HNO.out (fun h => by have := h.2.2.1; rw [Int.toNat_natCast, hg] at this; cases this))
                  clear hg
                  gi_wp2
                  exact ⟨KeepsOthers.setCell _ _ _, HX.out⟩
                | false =>
                  obtain ⟨ab, ao, rfl, _, hcs⟩ := (Arg.keep H.out hBW).at (i := j) (by omega)
                  have c6 := hcs j (by omega)
                  obtain ⟨yy, hyy⟩ : ∃ yy, z j = yy := ⟨_, rfl⟩
                  rw [hyy] at c6
                  have i6 : (j : Int) < (k : Int) := by omega
                  by_cases hx : x2 = yy
                  · have e2 : (x2 != yy) = false := by rw [hx]; simp
                    clear hcs hx hyy hg hBW hj'
                    gi_wp2
                    exact ⟨(KeepsOthers.setCell _ _ _).trans (KeepsOthers.setCell _ _ _), ((Kc.refl _ _).setCell (.inl rfl) _).setCell (.inr (.inl rfl)) _, HGO.out _ ((HVL.out.set _).other (c := Lb + 1) (o := 0) (by omega) _) ((HVN.out.other (c := Lb) (o := 0) (by omega) _).set _) ((HV2.out.other (c := Lb) (o := 0) (by omega) _).other (c := Lb + 1) (o := 0) (by omega) _) (((Kc.refl _ _).setCell (.inl rfl) _).setCell (.inr (.inl rfl)) _) ((HBW.out.setCell (p := ⟨Lb, 0, none⟩) (by show w.heap.size ≤ Lb; omega) _).setCell (p := ⟨Lb + 1, 0, none⟩) (by show w.heap.size ≤ Lb + 1; omega) _) (HMM.out.others ((KeepsOthers.setCell _ _ _).trans (KeepsOthers.setCell _ _ _))) (by omega) (by omega)⟩
                  · have e2 : (x2 != yy) = true := by simpa using hx
                    have HX := hid (HNO.out (fun h => hx (by rw [h.2.2.2, Int.toNat_natCast, hj', hyy])))
                    clear hcs hx hyy hg hBW hj'
                    gi_wp2
                    exact ⟨KeepsOthers.setCell _ _ _, HX.out⟩
              · rintro D ys W hD rfl ⟨⟨hl0, hlk1⟩, vL, vN, v2, hkc, hBW, hM⟩ hK
                exact ⟨.inl rfl, D, ⟨⟨⟨Nat.le_trans hBb.size hD, fun hm => by have := hDb D hm; omega⟩, hK⟩, hM, vN, v2, hkc, hBW⟩, rfl⟩
              · rintro D c pre W hD hsp hix hK
                exact absurd hsp hix
            · rintro D W ⟨⟨⟨hD1, hD2⟩, hK⟩, hM, vN, v2, hkc, hBW⟩
              have hnx : ∀ j, j < Lb → ¬ j = w.heap.size + 1 → ¬ (j = Lb ∨ j = Lb + 1 ∨ j = w.heap.size + 1) := fun j h1 h2 h3 => by omega
              have u0 := V0.out.keepC hkc (hnx _ l0 (by omega))
              have uG := VG.out.keepC hkc (hnx _ lG (by omega))
              have hG := HGb.out.keepC hkc (hnx _ lg (by omega))
              have hT := HTb.out.keepC hkc (fun j hj => hnx j (hlt3 j hj) (by have := hf7.le j hj; omega))
              have c0 := u0.cell; have cG := uG.cell; have cN := vN.cell
              have hmm : Marks W (D :: Ds) := fun D' hD' => by
                rcases List.mem_cons.1 hD' with rfl | hD'
                · exact hK
                · exact hM D' hD'
              have HU0 := hid u0; have HUG := hid uG; have HGG := hid hG; have HTT := hid hT; have HMM := hid hmm; have HV2 := hid v2; have HBW := hid hBW
              clear hstops V0 V2 VG VL VN HTb HGb HMb HOK hkc hM hK hmm u0 uG hG hT vN v2 hBW hnx
              go_wp2_with fail
              go_loopw [15, 16] (fun lf i wr => ∃ c : Nat, c ≤ k ∧ i = .int .i64 ((c : Int) + 1) ∧ lf = .int .i64 ((leftOf (fun i => Value.int .i64 (z i)) G c).length : Nat) ∧ wr = W) (fun _ i _ => k + 1 - (intOf i).toNat)
              case atStart => exact ⟨0, Nat.zero_le _, rfl, rfl, rfl⟩
              case round =>
                obtain ⟨c, hc, rfl, rfl, rfl⟩ := hrel
                have hsu := leftOf_succ (fun i => Value.int .i64 (z i)) G c
                have hlc := leftOf_le (fun i => Value.int .i64 (z i)) G c
                by_cases hck : c < k
                · have i1 : (c : Int) + 1 ≤ (k : Int) := by omega
                  obtain ⟨c', hc'⟩ : ∃ c', c + 1 = c' := ⟨_, rfl⟩
                  have hci : (c : Int) + 1 = (c' : Int) := by omega
                  have c5 := HGG.out.cell (i := c') (by omega)
                  have i5 : (c' : Int) < 300 := by omega
                  obtain ⟨g, hg⟩ : ∃ g, G c' = g := ⟨_, rfl⟩
                  rw [hc', hg] at hsu
                  rw [hg] at c5
                  obtain ⟨L1, hL1⟩ : ∃ L1, (leftOf (fun i => Value.int .i64 (z i)) G c).length = L1 := ⟨_, rfl⟩
                  rw [hL1] at hsu hlc ⊢
                  have HSU := hid hsu; have HC' := hid hc'
                  clear hsu hg hL1 hc'
                  cases g with
                  | true =>
                    go_wp2_with fail
                    go_roundw
                    case rel => exact ⟨c', by have := HC'.out; omega, by have := HC'.out; go_num, by rw [HSU.out]; rfl, by first | trivial | rfl⟩
                    case measure => have := HC'.out; simp [intOf]; omega
                  | false =>
                    go_wp2_with fail
                    go_roundw
                    case rel => exact ⟨c', by have := HC'.out; omega, by have := HC'.out; go_num, by rw [HSU.out]; rfl, by first | trivial | rfl⟩
                    case measure => have := HC'.out; simp [intOf]; omega
                · obtain rfl : c = k := by omega
                  have i1 : ¬ (c : Int) + 1 ≤ (c : Int) := by omega
                  rw [heyl] at cN
                  obtain ⟨L1, hL1⟩ : ∃ L1, (leftOf (fun i => Value.int .i64 (z i)) G c).length = L1 := ⟨_, rfl⟩
                  rw [hL1] at cN ⊢
                  have e7 : ((L1 : Int) != (L1 : Int)) = false := by simp
                  clear hsu hlc heyl hL1 hlk
                  go_wp2_with fail
                  refine ⟨?_, ?_⟩
                  · rw [HR3.out]
                    (repeat apply Exists.intro)
                    refine ⟨?_, rfl⟩
                    exact ⟨kk + 1, D :: Ds, by go_num, by omega, rfl, ⟨HMM.out, List.nodup_cons.2 ⟨hD2, hNd⟩, fun D' hD' => by rcases List.mem_cons.1 hD' with rfl | hD'; exact hD1; exact hDs D' hD'⟩, HTT.out, HGG.out, HU0.out, HV2.out, HUG.out, HBW.out⟩
                  · simp [intOf]; omega
          · obtain rfl : kk = 2 := by omega
            have c2 := V2.out.cell; have f2 := V2.out.thaw
            go_wp2_with fail
            exact leaves_marks (rb := w.heap.size + 1) (t := 4) (fun W' hv => by simp [results, Try.results9, go_sem, hv.cell]) Ds _ (HMs.out.others (KeepsOthers.setCell _ _ _)) hNd hDs (V2.out.set _) (HB9.out.setCell (p := ⟨w.heap.size + 1, 0, none⟩) (by show w.heap.size ≤ w.heap.size + 1; omega) _)
end Go.Proofs.Ytiejgkpjckjonaa
