/- Layer 3 (bits): an append of whatever bytes to a new row. -/
import Derived.Test.YtnaeloapajhpfaaBvA
import Derived.Lib.AppendZeros
namespace Go.Proofs.Ytnaeloapajhpfaa
open Go.RowKit Go.Shelf
set_option linter.unusedVariables false

theorem append_none (w : World) (a : Addr) (p : Option Addr) (cap : Nat) (ty : TypeId) : (Builtin.append_ #[27, 27] ty #[.slice (some a) 0 0, .slice p 0 cap]).run Try.prog w = .ok (.slice (some a) 0 0) w := by
  obtain ⟨i0, hi, hz0, hz1, hz2⟩ := info_parts info_u8
  cases p <;> simp [Builtin.append_, run_underlying Try.underlying27, sizeOf, typeInfo, hi, storeCells, Builtin.lenOf, Builtin.firstCells, go_sem]
theorem append_any (w : World) (p : Option Addr) (cap : Nat) (ys : List Nat) (ty : TypeId) (h : Arg w p ys.length cap fun i => .int .u8 ((ys.getD i 0 : Nat) : Int)) (hl : ys.length ≤ 100000) :
    ∃ v w', (Builtin.append_ #[27, 27] ty #[.slice (some ⟨w.heap.size, 0, none⟩) 0 0, .slice p ys.length cap]).run Try.prog (w.alloc (.cells #[] 5)) = .ok v w' ∧ Row w' w.heap.size v ys ∧ Below w.heap.size w w' := by
  by_cases h0 : ys.length = 0
  · have hy : ys = [] := List.length_eq_zero_iff.1 h0
    subst hy
    exact ⟨_, _, append_none _ _ p cap ty, ⟨own_empty w⟩, (Below.refl _ _).alloc (Nat.le_refl _) _⟩
  · obtain ⟨b, o, rfl, hb, hc⟩ := h.at (i := 0) (by omega)
    obtain ⟨i0, hi, hz0, hz1, hz2⟩ := info_parts info_u8
    have hnews : ∀ j u, (u8s ys)[j]? = some u → (w.alloc (.cells #[] 5)).cell? ((⟨b, o, none⟩ : Addr).add j) = some u := by
      intro j u hu
      obtain ⟨hj, rfl⟩ := List.getElem?_eq_some_iff.1 hu
      rw [u8s_get, Addr.add_lit]
      exact Lib.cell?_alloc_some _ (hc j (by rwa [u8s_length] at hj))
    obtain ⟨g, cap', w', hr, ho, hg, _, _⟩ := run_append_lies (P := Try.prog) (w.alloc (.cells #[] 5)) 27 ty w.heap.size 5 i0 (.int .u8 0) 1 1 Try.underlying27 hi hz0 hz1 hz2 rfl (by decide) _ 0 [] (own_empty w) ⟨b, o, none⟩ ys.length cap (u8s ys) (by rw [u8s_length]; omega) hnews (u8s_one ys) (by omega) (by unfold maxLen; omega) (by omega) (by simp) (w.heap.size + 1) (by simp)
    rw [Nat.zero_add, List.nil_append] at ho
    rw [Nat.zero_add] at hr
    exact ⟨_, w', hr, ⟨ho⟩, grown_below ((Below.refl w.heap.size w).alloc (Nat.le_refl _) _) hg (by intro k hk; cases hk; exact Nat.le_refl _)⟩
end Go.Proofs.Ytnaeloapajhpfaa
