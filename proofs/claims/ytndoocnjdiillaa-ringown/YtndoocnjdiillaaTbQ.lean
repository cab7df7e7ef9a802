/- Layer 2 (ring): what a table of pairs tells. -/
import Derived.Test.YtndoocnjdiillaaTbP
namespace Go.Proofs.Ytndoocnjdiillaa
open Go.RowKit Go.Shelf
set_option linter.unusedVariables false
attribute [local go_sem] Oper.semAt_some

theorem tAllP (t : Option Addr) (w : World) :
    Calls Try.prog 35 #[.pointer t] w fun e w' => e = .returned (.func (.func 48) #[] #[.pointer (some ⟨w.heap.size, 0, none⟩)]) ∧ w' = w.alloc (.cells #[.pointer t] 65) := by
  go_enter Try.func35, Try.ntmps35
  go_wp2
  go_ret
  exact ⟨rfl, rfl⟩
/-- Three cells a row. -/
structure Rows3 (w : World) (g : Nat) (f : Nat → Int × Int) (K : Nat) : Prop where
  at0 : ∀ k, k < K → w.cell? ⟨g, k * 3, none⟩ = some (.int .i64 ((k : Int) + 1))
  at1 : ∀ k, k < K → w.cell? ⟨g, k * 3 + 1, none⟩ = some (.int .i64 (f k).1)
  at2 : ∀ k, k < K → w.cell? ⟨g, k * 3 + 2, none⟩ = some (.int .i64 (f k).2)
theorem Rows3.keepC {X : Nat → Prop} {w w' : World} {g K : Nat} {f : Nat → Int × Int} (h : Rows3 w g f K) (hb : Kc X w w') (hx : ¬ X g) : Rows3 w' g f K :=
  ⟨fun k hk => hb.cell (h.at0 k hk) hx, fun k hk => hb.cell (h.at1 k hk) hx, fun k hk => hb.cell (h.at2 k hk) hx⟩
theorem rows3_of {w : World} {S : Nat → Prop} {b K : Nat} {f : Nat → Int × Int} (h : PT w S b f K) (h0 : 0 < K) : ∃ g cap, w.cell? ⟨b, 1, none⟩ = some (.slice (some ⟨g, 0, none⟩) K cap) ∧ K ≤ cap ∧ cap ≤ maxLen ∧ S g ∧ Rows3 w g f K := by
  obtain ⟨v, hb, hk⟩ := h
  have hl := fl_length f K
  obtain ⟨g, cap, rfl, h1, h2, _, h3, _, hc, _⟩ := hb.at (j := 0) (by omega)
  refine ⟨g, cap, hb.cells.2.1, h1, h2, h3, fun k hk => ?_, fun k hk => ?_, fun k hk => ?_⟩
  · have e := (fl_get f hk).1
    obtain ⟨hj, he⟩ := List.getElem?_eq_some_iff.1 e
    rw [hc _ hj, he]
  · have e := (fl_get f hk).2.1
    obtain ⟨hj, he⟩ := List.getElem?_eq_some_iff.1 e
    rw [hc _ hj, he]
  · have e := (fl_get f hk).2.2
    obtain ⟨hj, he⟩ := List.getElem?_eq_some_iff.1 e
    rw [hc _ hj, he]
set_option maxRecDepth 100000 in
set_option maxHeartbeats 2000000 in
theorem tAllP1 (n : Nat) (hn : 1 ≤ n) (X : Nat → Prop) (l Bn b g cap K : Nat) (a : Option Addr) (f : Nat → Int × Int) (J Jx : List { i : Nat // i < K } → World → Prop)
    (hY : ∀ pre (x : { i : Nat // i < K }) W, J pre W → pre.length < K → YieldAt Fence.wide (n - 1) Try.prog l #[.int .i64 ((x.1 : Int) + 1), .agg #[.int .i64 (f x.1).1, .int .i64 (f x.1).2]] W fun e W' =>
      (e = .returned (.bool true) ∧ J (pre ++ [x]) W' ∧ Kc X W W') ∨ (e = .returned (.bool false) ∧ Jx (pre ++ [x]) W'))
    (W : World) (hJ : AbidesFrom W.heap.size J) (hBn : W.cell? ⟨Bn, 0, none⟩ = some (.pointer (some ⟨b, 0, none⟩))) (hbc : W.cell? ⟨b, 1, none⟩ = some (.slice a K cap)) (hl1 : K ≤ 50) (hcap : K ≤ cap) (hcm : cap ≤ maxLen)
    (hR : K = 0 ∨ a = some ⟨g, 0, none⟩ ∧ Rows3 W g f K) (hX : K = 0 ∨ ¬ X g) (h0 : J [] W) :
    CallsIn Fence.wide n Try.prog 48 #[.func (.yield l) #[] #[], .pointer (some ⟨Bn, 0, none⟩)] W fun e W' => (∃ v, e = .returned v) ∧
      ((∃ ys, True ∧ J ys W') ∨ (∃ pre, True ∧ Jx pre W')) := by
  unfold maxLen at hcm
  refine callsIn_of_wp Try.func48 rfl trivial ?_ rfl
  simp only [Try.ntmps48, List.size_toArray, List.length_cons, List.length_nil, Nat.reduceAdd, Nat.reduceSub, Array.replicate_succ, Array.replicate_zero, List.push_toArray, List.append_toArray, List.nil_append, List.cons_append]
  have HY := hid hY
  have HJ := hid hJ
  clear hY hJ
  gi_wp2
  gi_loopw [10] (fun i wr => ∃ (k : Nat) (pre : List { i : Nat // i < K }), k ≤ K ∧ i = .int .i64 k ∧ pre.length = k ∧ J pre wr ∧ (K = 0 ∨ a = some ⟨g, 0, none⟩ ∧ Rows3 wr g f K))
    (fun i _ => K - (intOf i).toNat)
  case atStart => exact ⟨0, [], Nat.zero_le _, rfl, rfl, h0, hR⟩
  case round =>
    obtain ⟨k, pre, hk, rfl, hpl, hJs, hRr⟩ := hrel
    clear hR h0
    by_cases hlt : k < K
    · obtain ⟨rfl, hR2⟩ := hRr.resolve_left (by omega)
      have hXg := hX.resolve_left (by omega)
      have c0 := hR2.at0 k hlt
      have c1 := hR2.at1 k hlt
      have c2 := hR2.at2 k hlt
      have hki : (k : Int) < (K : Int) := by omega
      have hJ1 := HJ.out _ _ _ none hJs (World.grownBy_alloc wr (.cells #[.int .i64 ((k : Int) + 1), .int .i64 (f k).1, .int .i64 (f k).2] 96) none) (fun r e => by cases e)
      obtain ⟨fn, tmps, assign, body, hy, hYR⟩ := HY.out _ ⟨k, hlt⟩ _ hJ1 (by omega)
      dsimp only at hy
      have HPL := hid hpl
      have HR2 := hid hR2
      clear hRr hR2 hpl hX
      gi_wp2
      refine hYR.mono ?_
      rintro e W3 (⟨rfl, hJ3, hk3⟩ | ⟨rfl, hJx3⟩)
      · have hR3 := (HR2.out.keepC ((Kc.refl X wr).alloc (.cells #[.int .i64 ((k : Int) + 1), .int .i64 (f k).1, .int .i64 (f k).2] 96)) hXg).keepC hk3 hXg
        have HR3 := hid hR3
        clear hR3
        gi_wp2
        go_roundw
        case rel => exact ⟨k + 1, _, by omega, by go_num, by rw [List.length_append, HPL.out]; rfl, hJ3, .inr ⟨by first | trivial | rfl, HR3.out⟩⟩
        case measure => simp [intOf]; omega
      · gi_wp2
        refine bodyPost_ret (results_none rfl _ _ _) rfl ?_
        exact ⟨⟨_, rfl⟩, .inr ⟨_, trivial, hJx3⟩⟩
    · obtain rfl : k = K := by omega
      have hki : ¬ (k : Int) < (k : Int) := by omega
      gi_wp2
      go_end0
      exact ⟨⟨_, rfl⟩, .inl ⟨_, hJs⟩⟩
theorem tAllP_stops (n : Nat) (hn : 1 ≤ n) (X S : Nat → Prop) (Bn b K : Nat) (f : Nat → Int × Int) (w : World) (h : PT w S b f K) (hBn : Vr w Bn 65 (.pointer (some ⟨b, 0, none⟩))) (hd : ∀ k, S k → ¬ X k) :
    SeqStopsK Fence.wide n Try.prog 48 #[.pointer (some ⟨Bn, 0, none⟩)] (fun x : { i : Nat // i < K } => #[Value.int .i64 ((x.1 : Int) + 1), Value.agg #[.int .i64 (f x.1).1, .int .i64 (f x.1).2]]) (Kc X) (fun _ => True) (fun _ => True) K w := by
  intro l J Jx W hW hJ hJx hY h0
  have h' := h.below hW
  have hB := (hBn.below hW hBn.lt).cell
  by_cases hK : K = 0
  · obtain ⟨v, hb, hk⟩ := h'
    obtain ⟨a, cap, rfl, h1, h2⟩ := hb.form
    exact tAllP1 n hn X l Bn b 0 cap K a f J Jx hY W hJ hB hb.cells.2.1 hk h1 h2 (.inl hK) (.inl hK) h0
  · obtain ⟨g, cap, hc, h1, h2, hS, hR⟩ := rows3_of h' (by omega)
    obtain ⟨v, hb, hk⟩ := h'
    exact tAllP1 n hn X l Bn b g cap K _ f J Jx hY W hJ hB hc hk h1 h2 (.inr ⟨rfl, hR⟩) (.inr (hd g hS)) h0
end Go.Proofs.Ytndoocnjdiillaa
