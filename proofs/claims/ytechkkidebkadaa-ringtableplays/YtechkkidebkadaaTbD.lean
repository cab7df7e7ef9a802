/- Layer 2 (ring): slices.Delete of one row (rows of two cells). -/
import Derived.Test.YtechkkidebkadaaTbA
import Derived.Deep.RegionLaw
namespace Go.Proofs.Ytechkkidebkadaa
open Go.RowKit
set_option linter.unusedVariables false
attribute [local go_sem ↓] Go.wp_at_zero Go.wp_at_succ

/-- append with room, to a row that is known whole: at a step of a region that draws. -/
theorem step_append_row {P : Program} {ops : Array Oper} {o : Oper} {a : Act} {w : World} {K : Act → World → Prop} {Q : Exit → Act → World → Prop} {E : Prop}
    (hg : o.guard = none) (s x : Operand) (t : TypeId) (hop : o.op = Op.call { callee := Callee.builtin Builtin.append, args := #[s, x], argTypes := #[t, t] })
    (e : TypeId) (i : TypeInfo) (size : Nat) (h1 : P.underlying t = some (.slice e)) (h2 : P.info? e = some i) (h4 : i.size = size)
    (g n cap : Nat) (cur : Array Value) (hcur : w.heap[g]? = some (.cells cur e (0, 0))) (hs : a.eval s = .slice (some ⟨g, 0, none⟩) n cap)
    (ad : Addr) (m c : Nat) (news : List Value) (hx : a.eval x = .slice (some ad) m c) (hn : news.length = m * size) (hc : ∀ j u, news[j]? = some u → w.cell? (ad.add j) = some u) (h1c : ∀ u ∈ news, u.oneCell' = true)
    (hroom : n + m ≤ cap) (hfit : n * size + news.length ≤ cur.size)
    (hK : K (a.put o.dst (.slice (some ⟨g, 0, none⟩) (n + m) cap)) (w.setRow g (cur.toList.take (n * size) ++ news ++ cur.toList.drop (n * size + news.length)).toArray)) :
    if Region.wanted o (yielded ops a.tmps) = true then Oper.wp P o a w K Q else E := by
  have hw : Region.wanted o (yielded ops a.tmps) = true := by simp [Region.wanted, hg]
  rw [if_pos hw]
  subst h4
  have hrun := run_append_room (P := P) w t o.type e i h1 h2 g n cap cur hcur ad m c news hn hc h1c hroom hfit
  unfold Oper.wp execOp
  simp only [hop, resolve, invoke, builtin, Sem.run_bind, Sem.run_pure, Result.andThen_ok, List.map_toArray, List.map_cons, List.map_nil, hs, hx, hrun]
  exact hK
theorem info_rS : (Try.prog.info? 102).map (fun i => (i.zero, i.size, i.bytes)) = some (some (.agg #[.int .i64 0, .string ⟨#[]⟩]), 2, 24) := by kernel_rfl
theorem row_cell {w : World} {g : Nat} {cur : Array Value} {E : TypeId} (hg : w.heap[g]? = some (.cells cur E (0, 0))) {o m : Nat} : ∀ j u, ((cur.toList.drop o).take m)[j]? = some u → w.cell? ((⟨g, o, none⟩ : Addr).add j) = some u := by
  intro j u hu
  rw [Addr.add_lit, cell_of_row w g _ cur E (0, 0) hg]
  rw [List.getElem?_take] at hu
  split at hu
  · rw [List.getElem?_drop] at hu; simpa using hu
  · cases hu
/-- clear of one row of two cells. -/
theorem clear_two {P : Program} {t e ty : TypeId} {x y : Value} (ht : P.underlying t = some (.slice e)) (hv : ∀ w, (zeroValue e).run P w = .ok (.agg #[x, y]) w) (hx : x.oneCell' = true) (hy : y.oneCell' = true) {g o c : Nat} {cur : Array Value} {w : World} (hg : w.heap[g]? = some (.cells cur e (0, 0))) (hl : o + 2 ≤ cur.size) :
    (Builtin.clear_ #[t] ty #[.slice (some ⟨g, o, none⟩) 1 c]).run P w = .ok (.tuple #[]) (w.setRow g (cur.toList.take o ++ [x, y] ++ cur.toList.drop (o + 2)).toArray) := by
  have hzc : (Builtin.zeroCells (Value.agg #[x, y]).cells 1).toList = [x, y] := by simp [Builtin.zeroCells, Value.cells, Array.range]
  have hst := run_storeCells_at (P := P) g o e [x, y] 0 cur w hg (by simpa using hl) (by intro v hv'; simp at hv'; rcases hv' with rfl | rfl <;> assumption)
  simp only [Nat.add_zero, List.length_cons, List.length_nil, Nat.zero_add, Nat.reduceAdd] at hst
  simp [Builtin.clear_, run_underlying ht, hv, hzc, hst]
theorem fr_setRow {w W : World} {S : Nat → Prop} (h : Fr S w W) {g : Nat} (hg : S g) (cs : Array Value) : Fr S w (W.setRow g cs) :=
  ⟨h.os, h.tape, h.output, by simpa [World.setRow] using h.size, fun i hi hn => (setRow_other W g i cs (fun e => hn (by rw [e]; exact hg))).trans (h.block i hi hn)⟩
theorem del_cells {cur : List Value} {i k cap : Nat} {x y : Value} (hcs : cur.length = cap * 2) (hk : k + 1 ≤ cap) (hi : i ≤ k) :
    ((cur.take (i * 2) ++ (cur.drop ((i + 1) * 2)).take ((k - i) * 2) ++ cur.drop (i * 2 + (k - i) * 2)).take (k * 2) ++ [x, y] ++ (cur.take (i * 2) ++ (cur.drop ((i + 1) * 2)).take ((k - i) * 2) ++ cur.drop (i * 2 + (k - i) * 2)).drop (k * 2 + 2)).take (k * 2) = cur.take (i * 2) ++ (cur.drop ((i + 1) * 2)).take ((k - i) * 2) := by
  have e1 : (cur.take (i * 2) ++ (cur.drop ((i + 1) * 2)).take ((k - i) * 2)).length = k * 2 := by
    rw [List.length_append, List.length_take, List.length_take, List.length_drop]; omega
  have e2 : (cur.take (i * 2) ++ (cur.drop ((i + 1) * 2)).take ((k - i) * 2) ++ cur.drop (i * 2 + (k - i) * 2)).take (k * 2) = cur.take (i * 2) ++ (cur.drop ((i + 1) * 2)).take ((k - i) * 2) := by
    rw [← e1]; exact List.take_left
  rw [e2, List.append_assoc]
  conv => lhs; rw [← e1]
  exact List.take_left
set_option maxRecDepth 100000 in
set_option maxHeartbeats 1000000 in
theorem deleteS (g cap k i : Nat) (cur : Array Value) (w : World) (hg : w.heap[g]? = some (.cells cur 102 (0, 0))) (hcs : cur.size = cap * 2) (hk : k + 1 ≤ cap) (hcap : cap ≤ maxLen) (hi : i ≤ k) (h1 : ∀ u ∈ cur.toList.take ((k + 1) * 2), u.oneCell' = true) :
    Calls Try.prog 50 #[.slice (some ⟨g, 0, none⟩) (k + 1) cap, .int .i64 i, .int .i64 (i + 1)] w fun e w' => e = .returned (.slice (some ⟨g, 0, none⟩) k cap) ∧ (∃ cur', w'.heap[g]? = some (.cells cur' 102 (0, 0)) ∧ cur'.size = cur.size ∧ cur'.toList.take (k * 2) = cur.toList.take (i * 2) ++ (cur.toList.drop ((i + 1) * 2)).take ((k - i) * 2)) ∧ Fr (fun j => j = g) w w' := by
  obtain ⟨i0, hi0, hz0, hz1, hz2⟩ := info_parts info_rS
  unfold maxLen at hcap
  have n1 : ((i : Int) == (i : Int) + 1) = false := beq_eq_false_iff_ne.2 (by omega)
  have n2 : (i : Int) + 1 ≤ (k : Int) + 1 := by omega
  have n3 : (k : Int) + 1 ≤ (cap : Int) := by omega
  have n7 : (0 : Int) ≤ (i : Int) + 1 := by omega
  have n4 : i ≤ cap := by omega
  have n5 : i + 1 ≤ cap := by omega
  have n6 : i ≤ k + 1 := by omega
  go_enter Try.func50, Try.ntmps50
  obtain ⟨news, hnews⟩ : ∃ news, news = (cur.toList.drop ((i + 1) * 2)).take ((k - i) * 2) := ⟨_, rfl⟩
  have hlen : news.length = (k - i) * 2 := by rw [hnews, List.length_take, List.length_drop, Array.length_toList]; omega
  obtain ⟨A, hA, hsrc⟩ : ∃ A : Addr, (if cap = i + 1 then some (⟨g, 0, none⟩ : Addr) else some ⟨g, (i + 1) * 2, none⟩) = some A ∧ Hid (∀ t u, news[t]? = some u → w.drew.cell? (A.add t) = some u) := by
    by_cases h : cap = i + 1
    · refine ⟨⟨g, 0, none⟩, by simp [h], fun t u hu => ?_⟩
      have h0 : news.length = 0 := by rw [hlen]; omega
      rw [List.length_eq_zero_iff.1 h0] at hu
      simp at hu
    · refine ⟨⟨g, (i + 1) * 2, none⟩, by simp [h], fun t u hu => ?_⟩
      rw [hnews] at hu
      exact row_cell hg t u hu
  have s1 : Hid (news.length = (k - i) * 2) := hlen
  have s2 : Hid (∀ u ∈ news, u.oneCell' = true) := by
    intro u hu
    rw [hnews] at hu
    refine h1 u ?_
    obtain ⟨j, hj⟩ := List.getElem?_of_mem hu
    rw [List.getElem?_take] at hj
    split at hj
    · rw [List.getElem?_drop] at hj
      refine List.mem_of_getElem? (i := (i + 1) * 2 + j) ?_
      rw [List.getElem?_take, if_pos (by omega)]; exact hj
    · cases hj
  have s3 : Hid (w.drew.heap[g]? = some (.cells cur 102 (0, 0))) := hg
  obtain ⟨W1, hW1⟩ : ∃ W1, W1 = w.drew.setRow g (cur.toList.take (i * 2) ++ news ++ cur.toList.drop (i * 2 + news.length)).toArray := ⟨_, rfl⟩
  have hW : Hid _ := hW1
  have s4 : Hid (i * 2 + news.length ≤ cur.size) := by rw [hlen, hcs]; exact (by omega : i * 2 + (k - i) * 2 ≤ cap * 2)
  have hw1 : W1.heap[g]? = some (.cells (cur.toList.take (i * 2) ++ news ++ cur.toList.drop (i * 2 + news.length)).toArray 102 (0, 0)) := by rw [hW1]; exact setRow_heap _ g cur _ _ _ s3.out
  have hsz : (cur.toList.take (i * 2) ++ news ++ cur.toList.drop (i * 2 + news.length)).toArray.size = cur.size := by
    rw [List.size_toArray, List.length_append, List.length_append, List.length_take, List.length_drop, Array.length_toList, hlen]; omega
  have hcl := fun ty => clear_two (P := Try.prog) (ty := ty) Try.underlying98 Try.zeroValue102 rfl rfl (g := g) (o := k * 2) (c := cap - k) hw1 (by rw [hsz]; omega)
  have hw2 := setRow_heap W1 g _ (((cur.toList.take (i * 2) ++ news ++ cur.toList.drop (i * 2 + news.length)).toArray.toList.take (k * 2) ++ [Value.int .i64 0, Value.string ⟨#[]⟩] ++ (cur.toList.take (i * 2) ++ news ++ cur.toList.drop (i * 2 + news.length)).toArray.toList.drop (k * 2 + 2)).toArray) 102 (0, 0) hw1
  generalize hW2 : W1.setRow g (((cur.toList.take (i * 2) ++ news ++ cur.toList.drop (i * 2 + news.length)).toArray.toList.take (k * 2) ++ [Value.int .i64 0, Value.string ⟨#[]⟩] ++ (cur.toList.take (i * 2) ++ news ++ cur.toList.drop (i * 2 + news.length)).toArray.toList.drop (k * 2 + 2)).toArray) = W2 at hcl hw2
  have hF1 : Fr (fun j => j = g) w W1 := by rw [hW1]; exact fr_setRow (Fr.refl (fun j => j = g) w).drew rfl _
  have hF2 : Fr (fun j => j = g) w W2 := by rw [← hW2]; exact fr_setRow (S := fun j => j = g) hF1 rfl _
  have HN : Hid _ := hnews
  have HZ : Hid _ := hsz
  have HL : Hid _ := hlen
  have H2 : Hid _ := hw2
  clear hW1 hnews hlen hsz hW2 hw1 hw2
  go_wp2_with fail
  go_region_law (refine step_append_row rfl (.tmp 22) (.tmp 25) 98 rfl 102 i0 2 Try.underlying98 hi0 hz1 g i cap cur s3.out (by simp [Act.eval, Act.put]) A (k - i) (cap - (i + 1)) news (by simp [Act.eval, Act.put]) s1.out hsrc.out s2.out (by omega) s4.out ?_; rw [← hW.out])
  go_wp2
  go_ret
  refine ⟨rfl, ⟨_, H2.out, ?_, ?_⟩, hF2⟩
  · have := HZ.out
    rw [List.size_toArray] at this ⊢
    simp only [List.length_append, List.length_take, List.length_drop, List.length_cons, List.length_nil] at this ⊢
    omega
  · have hn := HN.out
    have hl := HL.out
    subst hn
    rw [hl]
    exact del_cells (by rw [Array.length_toList]; exact hcs) hk hi
end Go.Proofs.Ytechkkidebkadaa
