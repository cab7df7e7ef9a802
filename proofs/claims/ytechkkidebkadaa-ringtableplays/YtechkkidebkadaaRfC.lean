/- Layer 2 (ring): ranges over rings of numbers: what Ring[int].All does. -/
import Derived.Test.YtechkkidebkadaaRfA
import Derived.Test.YtechkkidebkadaaRfB
namespace Go.Proofs.Ytechkkidebkadaa
open Go.RowKit Go.Shelf
set_option linter.unusedVariables false
attribute [local go_sem] Oper.semAt_some

/-- All things are numbers; which. -/
def AllI (xs : List Value) : Prop := ∀ k (hk : k < xs.length), ∃ z : Int, xs[k] = .int .i64 z
def toI (xs : List Value) : List Int := xs.map intOf
theorem toI_length (xs : List Value) : (toI xs).length = xs.length := by simp [toI]
theorem grown_none {A B : World} (h : Below A.heap.size A B) : A.grownBy B none := ⟨h.os, h.tape, h.output, h.size, fun k hk _ => h.block k hk⟩
theorem three_below {W w1 : World} {o : Obj} {a b c : Addr} {x y z : Value} (ha : W.cell? a = some x) (hb : W.cell? b = some y) (hc : W.cell? c = some z) (h : Below (W.alloc o).drew.heap.size (W.alloc o).drew w1) : w1.cell? a = some x ∧ w1.cell? b = some y ∧ w1.cell? c = some z := by
  have k : ∀ {p : Addr} {v : Value}, W.cell? p = some v → w1.cell? p = some v := fun {p v} hp => by
    have h1 : (W.alloc o).cell? p = some v := Lib.cell?_alloc_some _ hp
    exact (h.cell (p := p) (World.block_lt_of_cell? _ _ h1)).trans h1
  exact ⟨k ha, k hb, k hc⟩
set_option maxRecDepth 100000 in
set_option maxHeartbeats 2000000 in
theorem rAllI1 (n : Nat) (hn : 1 ≤ n) (X : Nat → Prop) (l Bn b m : Nat) (S : Nat → Prop) (xs : List Value) (J Jx : List Int → World → Prop)
    (hY : ∀ pre x W, J pre W → pre.length < xs.length → YieldAt Fence.wide (n - 1) Try.prog l #[.int .i64 x] W fun e W' =>
      (e = .returned (.bool true) ∧ J (pre ++ [x]) W' ∧ Kc X W W') ∨ (e = .returned (.bool false) ∧ Jx (pre ++ [x]) W'))
    (W : World) (hJ : AbidesFrom W.heap.size J) (hBn : W.cell? ⟨Bn, 0, none⟩ = some (.pointer (some ⟨b, 0, none⟩))) (hR : RingAt 82 3 W S b m xs)
    (hXl : ∀ k, X k → k < W.heap.size) (hs : AllI xs) (h0 : J [] W) :
    CallsIn Fence.wide n Try.prog 43 #[.func (.yield l) #[] #[], .pointer (some ⟨Bn, 0, none⟩)] W fun e W' => (∃ v, e = .returned v) ∧
      ((∃ ys, ys = toI xs ∧ J ys W') ∨ (∃ pre, pre <+: toI xs ∧ Jx pre W')) := by
  obtain ⟨f, v, ys, hb, hm1, hm2, h3, h4, hxs⟩ := hR
  obtain ⟨c0, c1, c2, hlt⟩ := hb.cells
  have hxl : xs.length = ys.length := by rw [hxs, List.length_append, List.length_drop, List.length_take]; omega
  refine callsIn_of_wp Try.func43 rfl trivial ?_ rfl
  simp only [Try.ntmps43, List.size_toArray, List.length_cons, List.length_nil, Nat.reduceAdd, Nat.reduceSub, Array.replicate_succ, Array.replicate_zero, List.push_toArray, List.append_toArray, List.nil_append, List.cons_append]
  refine wpIn_wide.2 ?_
  have hBnl : Bn < W.heap.size := World.block_lt_of_cell? W ⟨Bn, 0, none⟩ hBn
  by_cases he : ys = []
  · subst he
    have hf0 : f = 0 := by simp at h4; omega
    subst hf0
    have hx0 : xs = [] := by rw [hxs]; rfl
    subst hx0
    rcases hb.own.2 with ⟨rfl, _⟩ | ⟨g, cap, _, rfl, _, _, _, hcm, _⟩
    · have hcon := concatI0 W.heap.size 0 0 none none (W.alloc (.cells #[.slice none 0 0, .slice none 0 0] 22)).drew (by simp) (by simp)
      have HJ := hid hJ
      have c2 : W.cell? ⟨b, 2, none⟩ = some (.int .i64 0) := c2
      have c1 : W.cell? ⟨b, 1, none⟩ = some (.slice none 0 0) := c1
      clear hb h4 hxs hxl hY hs hXl hJ
      go_wp2_with fail
      go_region_held3 (fun w' => w'.cell? ⟨Bn, 0, none⟩ = some (.pointer (some ⟨b, 0, none⟩)) ∧ w'.cell? ⟨b, 1, none⟩ = some (.slice none 0 0) ∧ w'.cell? ⟨b, 2, none⟩ = some (.int .i64 0))
        (first
          | assumption
          | exact ⟨hBn, c1, c2⟩
          | exact (by go_split_ands; exact ⟨Lib.cell?_alloc_some _ (by assumption), Lib.cell?_alloc_some _ (by assumption), Lib.cell?_alloc_some _ (by assumption)⟩))
        (first
          | (go_at_call 44; refine hcon.mono ?_; rintro e w1 ⟨rfl, rfl⟩))
      have hB1 : Below W.heap.size W (W.alloc (.cells #[.slice none 0 0, .slice none 0 0] 22)).drew := ((Below.refl _ W).alloc (Nat.le_refl _) _).drew
      have hJ1 := HJ.out _ _ _ none h0 (grown_none hB1) (fun r e => by cases e)
      clear hcon
      go_wp2_with fail
      go_loopw [26] (fun i wr => i = .int .i64 0 ∧ J [] wr) (fun _ _ => 0)
      case atStart => exact ⟨rfl, hJ1⟩
      case round =>
        obtain ⟨rfl, hJs⟩ := hrel
        go_wp2_with fail
        go_end0
        exact ⟨⟨_, rfl⟩, .inl ⟨_, rfl, hJs⟩⟩
    · unfold maxLen at hcm
      have hcon := concatI0 W.heap.size cap cap (some ⟨g, 0, none⟩) (some ⟨g, 0, none⟩) (W.alloc (.cells #[.slice (some ⟨g, 0, none⟩) 0 cap, .slice (some ⟨g, 0, none⟩) 0 cap] 22)).drew (by simp) (by simp)
      have HJ := hid hJ
      have c2 : W.cell? ⟨b, 2, none⟩ = some (.int .i64 0) := c2
      have c1 : W.cell? ⟨b, 1, none⟩ = some (.slice (some ⟨g, 0, none⟩) 0 cap) := c1
      have i1 : (0 : Int) ≤ (cap : Int) := by omega
      clear hb h4 hxs hxl hY hs hXl hJ
      go_wp2_with fail
      go_region_held3 (fun w' => w'.cell? ⟨Bn, 0, none⟩ = some (.pointer (some ⟨b, 0, none⟩)) ∧ w'.cell? ⟨b, 1, none⟩ = some (.slice (some ⟨g, 0, none⟩) 0 cap) ∧ w'.cell? ⟨b, 2, none⟩ = some (.int .i64 0))
        (first
          | assumption
          | exact ⟨hBn, c1, c2⟩
          | exact (by go_split_ands; exact ⟨Lib.cell?_alloc_some _ (by assumption), Lib.cell?_alloc_some _ (by assumption), Lib.cell?_alloc_some _ (by assumption)⟩))
        (first
          | (go_at_call 44; refine hcon.mono ?_; rintro e w1 ⟨rfl, rfl⟩))
      have hB1 : Below W.heap.size W (W.alloc (.cells #[.slice (some ⟨g, 0, none⟩) 0 cap, .slice (some ⟨g, 0, none⟩) 0 cap] 22)).drew := ((Below.refl _ W).alloc (Nat.le_refl _) _).drew
      have hJ1 := HJ.out _ _ _ none h0 (grown_none hB1) (fun r e => by cases e)
      clear hcon
      go_wp2_with fail
      go_loopw [26] (fun i wr => i = .int .i64 0 ∧ J [] wr) (fun _ _ => 0)
      case atStart => exact ⟨rfl, hJ1⟩
      case round =>
        obtain ⟨rfl, hJs⟩ := hrel
        go_wp2_with fail
        go_end0
        exact ⟨⟨_, rfl⟩, .inl ⟨_, rfl, hJs⟩⟩
  · obtain ⟨g, cap, rfl, hnc, hcm, hgb, hSg, hgl, hcs, right⟩ := hb.at (j := 0) (List.length_pos_iff.2 he)
    have hpos : 0 < ys.length := List.length_pos_iff.2 he
    have hf : f < ys.length := by omega
    unfold maxLen at hcm
    have i1 : (f : Int) ≤ (ys.length : Int) := by omega
    have i2 : (ys.length : Int) ≤ (cap : Int) := by omega
    have i3 : (f : Int) ≤ (cap : Int) := by omega
    have i4 : ¬ cap = f := by omega
    have i5 : f ≤ cap := by omega
    have i6 : f ≤ ys.length := by omega
    have HC := hid hcs
    have H1 := hid hb.one
    have HJ := hid hJ
    have HY := hid hY
    have HX := hid hXl
    have HS := hid hs
    have HXS := hid hxs
    have HXL := hid hxl
    clear hb hcs hxs h4 hJ hY hXl hs hxl
    have hcon := concatI W.heap.size g f cap (cap - f) ys (W.alloc (.cells #[.slice (some ⟨g, f, none⟩) (ys.length - f) (cap - f), .slice (some ⟨g, 0, none⟩) f cap] 22)).drew hf (by omega) (by simp; omega) (by simp) (by simp) (by simp) (fun i hi => Lib.cell?_alloc_some _ (HC.out i hi)) H1.out
    go_wp2_with fail
    go_region_held3 (fun w' => w'.cell? ⟨Bn, 0, none⟩ = some (.pointer (some ⟨b, 0, none⟩)) ∧ w'.cell? ⟨b, 1, none⟩ = some (.slice (some ⟨g, 0, none⟩) ys.length cap) ∧ w'.cell? ⟨b, 2, none⟩ = some (.int .i64 f))
      (first
        | assumption
        | exact ⟨hBn, c1, c2⟩
        | exact hcells
        | exact (by go_split_ands; exact ⟨Lib.cell?_alloc_some _ (by assumption), Lib.cell?_alloc_some _ (by assumption), Lib.cell?_alloc_some _ (by assumption)⟩))
      (first
        | (go_at_call 44; refine hcon.mono ?_; rintro e w1 ⟨⟨v, rfl, ho⟩, b1⟩; obtain ⟨g', cap', rfl, hg', hgl'⟩ := ho.form hpos; have HO := hid ho; have hcells := three_below hBn c1 c2 b1; clear ho))
    have hB1 : Below W.heap.size W w1 := (((Below.refl _ W).alloc (Nat.le_refl _) _).drew).trans (b1.mono (by simp))
    have hJ1 := HJ.out _ _ _ none h0 (grown_none hB1) (fun r e => by cases e)
    have hnX : ¬ X g' := fun e => by have := HX.out g' e; simp at hg'; omega
    have hcopy : ∀ i (hi : i < xs.length), w1.cell? ⟨g', i, none⟩ = some xs[i] := by
      intro i hi
      have hx := HXS.out
      have := HO.out.cells (g := g') rfl i xs[i] (by rw [← hx]; exact List.getElem?_eq_getElem hi)
      rwa [Addr.add_lit, Nat.zero_add] at this
    have hcl : ys.length ≤ cap' ∧ cap' ≤ maxLen := by
      rcases HO.out.2 with ⟨e, _⟩ | ⟨_, _, _, e, _, _, h5, h6, _⟩
      · cases e
      · cases e; exact ⟨h5, h6⟩
    rw [← HXL.out] at hcl hpos ⊢
    unfold maxLen at hcl
    clear hcon b1 hcells HO HC H1 c0 c1 c2 hBn right h3 i1 i2 i3 i4 i5 i6 hnc hcm
    go_wp2_with fail
    refine (wpIn_wide (n := n)).1 ?_
    gi_loopw [26] (fun i wr => ∃ k : Nat, k ≤ xs.length ∧ i = .int .i64 k ∧ J ((toI xs).take k) wr ∧ ∀ i (hi : i < xs.length), wr.cell? ⟨g', i, none⟩ = some xs[i])
      (fun i _ => xs.length - (intOf i).toNat)
    case atStart => exact ⟨0, Nat.zero_le _, rfl, by simpa using hJ1, hcopy⟩
    case round =>
      obtain ⟨k, hk, rfl, hJs, hcr⟩ := hrel
      have HCR := hid hcr
      clear hcopy hJ1 hcr
      by_cases hlt : k < xs.length
      · obtain ⟨z, hz⟩ := HS.out k hlt
        have c1 := HCR.out k hlt
        rw [hz] at c1
        have hki : (k : Int) < (xs.length : Int) := by omega
        obtain ⟨fn, tmps, assign, body, hy, hYR⟩ := HY.out _ z _ hJs (by rw [List.length_take, toI_length]; omega)
        have hsn : (toI xs).take (k + 1) = (toI xs).take k ++ [z] := by
          rw [List.take_succ_eq_append_getElem (by rw [toI_length]; exact hlt)]
          congr 2
          simp only [toI, List.getElem_map, hz]
          rfl
        have HSN := hid hsn
        clear hsn hz
        gi_wp2
        refine hYR.mono ?_
        rintro e W3 (⟨rfl, hJ3, hk3⟩ | ⟨rfl, hJx3⟩)
        · have hc3 : ∀ i (hi : i < xs.length), W3.cell? ⟨g', i, none⟩ = some xs[i] := fun i hi => hk3.cell (HCR.out i hi) hnX
          have HC3 := hid hc3
          clear hc3
          gi_wp2
          go_roundw
          case rel => exact ⟨k + 1, by omega, by go_num, by rw [HSN.out]; exact hJ3, HC3.out⟩
          case measure => simp [intOf]; omega
        · gi_wp2
          refine bodyPost_ret (results_none rfl _ _ _) rfl ?_
          exact ⟨⟨_, rfl⟩, .inr ⟨_, by rw [← HSN.out]; exact List.take_prefix _ _, hJx3⟩⟩
      · obtain rfl : k = xs.length := by omega
        have hki : ¬ (xs.length : Int) < (xs.length : Int) := by omega
        rw [List.take_of_length_le (by rw [toI_length]; omega)] at hJs
        gi_wp2
        go_end0
        exact ⟨⟨_, rfl⟩, .inl hJs⟩
/-- A ring of numbers tells all that it has, the first one first, or the first of them. -/
theorem rAllI_stops (n : Nat) (hn : 1 ≤ n) (X S : Nat → Prop) (Bn b m : Nat) (xs : List Value) (w : World) (h : RingAt 82 3 w S b m xs) (hs : AllI xs)
    (hBn : w.cell? ⟨Bn, 0, none⟩ = some (.pointer (some ⟨b, 0, none⟩))) (hBl : Bn < w.heap.size) (hXl : ∀ k, X k → k < w.heap.size) :
    SeqStopsK Fence.wide n Try.prog 43 #[.pointer (some ⟨Bn, 0, none⟩)] (fun x : Int => #[Value.int .i64 x]) (Kc X) (fun ys => ys = toI xs) (fun pre => pre <+: toI xs) xs.length w := by
  intro l J Jx W hW hJ hJx hY h0
  exact rAllI1 n hn X l Bn b m S xs J Jx hY W hJ ((hW.cell (p := ⟨Bn, 0, none⟩) hBl).trans hBn) (h.below hW) (fun k hk => Nat.lt_of_lt_of_le (hXl k hk) hW.size) hs h0
theorem rAllI (t : Option Addr) (w : World) :
    Calls Try.prog 17 #[.pointer t] w fun e w' => e = .returned (.func (.func 43) #[] #[.pointer (some ⟨w.heap.size, 0, none⟩)]) ∧ w' = w.alloc (.cells #[.pointer t] 24) := by
  go_enter Try.func17, Try.ntmps17
  go_wp2
  go_ret
  exact ⟨rfl, rfl⟩
#print axioms rAllI_stops
end Go.Proofs.Ytechkkidebkadaa
