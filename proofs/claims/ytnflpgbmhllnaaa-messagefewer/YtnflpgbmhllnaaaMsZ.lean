/- Layer 5 (message): append of whatever bytes; what is told of bytes that are cut off, or have one more. -/
import Derived.Test.YtnflpgbmhllnaaaMsY
import Derived.Lib.AppendZeros
namespace Go.Proofs.Ytnflpgbmhllnaaa
open Go.RowKit Go.Shelf
set_option linter.unusedVariables false

theorem append_none (w : World) (a : Addr) (p : Option Addr) (cap : Nat) (ty : TypeId) : (Builtin.append_ #[25, 25] ty #[.slice (some a) 0 0, .slice p 0 cap]).run Try.prog w = .ok (.slice (some a) 0 0) w := by
  obtain ⟨i0, hi, hz0, hz1, hz2⟩ := info_parts info_u8
  cases p <;> simp [Builtin.append_, run_underlying Try.underlying25, sizeOf, typeInfo, hi, storeCells, Builtin.lenOf, Builtin.firstCells, go_sem]
theorem append_any (w : World) (p : Option Addr) (cap : Nat) (ys : List Nat) (ty : TypeId) (h : Arg w p ys.length cap fun i => .int .u8 ((ys.getD i 0 : Nat) : Int)) (hl : ys.length ≤ 100000) :
    ∃ v w', (Builtin.append_ #[25, 25] ty #[.slice (some ⟨w.heap.size, 0, none⟩) 0 0, .slice p ys.length cap]).run Try.prog (w.alloc (.cells #[] 5)) = .ok v w' ∧ Row w' w.heap.size v ys ∧ Below w.heap.size w w' := by
  by_cases h0 : ys.length = 0
  · have hy : ys = [] := List.length_eq_zero_iff.1 h0
    subst hy
    exact ⟨_, _, append_none _ _ p cap ty, ⟨own_empty w⟩, (Below.refl _ _).alloc (Nat.le_refl _) _⟩
  · obtain ⟨b, o, rfl, hb, hc⟩ := h.at (i := 0) (by omega)
    obtain ⟨i0, hi, hz0, hz1, hz2⟩ := info_parts info_u8
    have hnews : ∀ j u, (u8s ys)[j]? = some u → (w.alloc (.cells #[] 5)).cell? ((⟨b, o, none⟩ : Addr).add j) = some u := by
      intro j u hu
      obtain ⟨hj, rfl⟩ := List.getElem?_eq_some_iff.1 hu
      rw [u8s_get, Addr.add_lit]
      exact Lib.cell?_alloc_some _ (hc j (by rwa [u8s_length] at hj))
    obtain ⟨g, cap', w', hr, ho, hg, _, _⟩ := run_append_lies (P := Try.prog) (w.alloc (.cells #[] 5)) 25 ty w.heap.size 5 i0 (.int .u8 0) 1 1 Try.underlying25 hi hz0 hz1 hz2 rfl (by decide) _ 0 [] (own_empty w) ⟨b, o, none⟩ ys.length cap (u8s ys) (by rw [u8s_length]; omega) hnews (u8s_one ys) (by omega) (by unfold maxLen; omega) (by omega) (by simp) (w.heap.size + 1) (by simp)
    rw [Nat.zero_add, List.nil_append] at ho
    rw [Nat.zero_add] at hr
    exact ⟨_, w', hr, ⟨ho⟩, grown_below ((Below.refl w.heap.size w).alloc (Nat.le_refl _) _) hg (by intro k hk; cases hk; exact Nat.le_refl _)⟩
theorem encE_zero {ms : List Msg} (h : encE ms = 0) : ms.all rgtB = true ∧ ms.length ≤ 16 ∧ (encJ ms ms.length).length ≤ 8192 := by
  unfold encE at h
  split at h
  · rename_i h1
    split at h
    · rename_i h2
      split at h
      · rename_i h3; exact ⟨h1, h2, h3⟩
      · cases h
    · cases h
  · cases h
theorem enc_right {ms : List Msg} (h : encE ms = 0) : ∀ m ∈ ms, Rgt m := fun m hm => (rgtB_iff m).1 (List.all_eq_true.1 (encE_zero h).1 m hm)
theorem enc_back {ms : List Msg} (h : encE ms = 0) (t : List Bool) : (allP []).run Pg.rdS (encJ ms ms.length ++ t, 0) = (ms, (t, 0)) := by
  rw [← enc_all (encE_zero h).2.1 (encE_zero h).1]
  exact all_back (encE_zero h).2.1 (enc_right h) t
theorem unpack_take (ys : List Nat) (i : Nat) : unpack (ys.take i) = (unpack ys).take (8 * i) := by
  induction ys generalizing i with
  | nil => simp [unpack]
  | cons y ys ih =>
    cases i with
    | zero => simp [unpack]
    | succ i =>
      rw [List.take_succ_cons, show unpack (y :: ys.take i) = low y 8 ++ unpack (ys.take i) from rfl, show unpack (y :: ys) = low y 8 ++ unpack ys from rfl, ih, List.take_append, low_length]
      rw [List.take_of_length_le (l := low y 8) (by rw [low_length]; omega), show 8 * (i + 1) - 8 = 8 * i by omega]
theorem dec_cut {ms : List Msg} {ys : List Nat} {f i : Nat} (h : encE ms = 0) (hp : Packs ys f (encJ ms ms.length)) (hi : i < ys.length) : decS (ys.take i) = ([], 2) := by
  have hl := hp.len
  have hfew := hp.few
  have e1 : unpack (ys.take i) = (encJ ms ms.length).take (8 * i) := by
    rw [unpack_take, hp.bits, List.take_append_of_le_length (by omega)]
  have e2 : (decR (ys.take i)).2.2 = 2 := by
    unfold decR
    rw [e1]
    refine all_cut (ms := ms) (u := (encJ ms ms.length).drop (8 * i)) (encE_zero h).2.1 (enc_right h) ?_ ?_
    · rw [List.take_append_drop, enc_all (encE_zero h).2.1 (encE_zero h).1]
    · intro e
      have := congrArg List.length e
      rw [List.length_drop] at this
      simp at this
      omega
  unfold decS
  rw [e2]
  rfl
theorem dec_more {ms : List Msg} {ys : List Nat} {f y : Nat} (h : encE ms = 0) (hp : Packs ys f (encJ ms ms.length)) : decS (ys ++ [y]) = ([], 3) := by
  have e1 : decR (ys ++ [y]) = (ms, (List.replicate f false ++ low y 8, 0)) := by
    unfold decR
    rw [unpack_append, hp.bits, List.append_assoc, show unpack [y] = low y 8 by simp [unpack]]
    exact enc_back h _
  unfold decS
  rw [e1]
  have e2 : restB (List.replicate f false ++ low y 8) = false := by
    unfold restB
    rw [List.length_append, low_length]
    simp
    omega
  simp [e2]
theorem dec_enc {ms : List Msg} {ys : List Nat} {f : Nat} (h : encE ms = 0) (hp : Packs ys f (encJ ms ms.length)) : decS ys = (ms, 0) := by
  have hl := hp.len
  have hfew := hp.few
  have h8 := (encE_zero h).2.2
  have e1 : decR ys = (ms, (List.replicate f false, 0)) := by
    unfold decR
    rw [hp.bits]
    exact enc_back h _
  unfold decS
  rw [e1]
  have e2 : restB (List.replicate f false) = true := by
    unfold restB
    simp
    omega
  simp [e2]
  omega
end Go.Proofs.Ytnflpgbmhllnaaa
