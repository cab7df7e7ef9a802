/- Layer 10 (trace): the contracts of Free, the program's and the document's own. -/
import Derived.Test.YthcmcjklhcfenaaTrM
import Derived.Test.YthcmcjklhcfenaaGrP
import Derived.Test.YthcmcjklhcfenaaTsM
namespace Go.Proofs.Ythcmcjklhcfenaa
open Go.RowKit
set_option linter.unusedVariables false
set_option linter.unusedSimpArgs false
attribute [local go_sem ↓] Go.wp_at_zero Go.wp_at_succ

theorem keepS {w V V1 : World} {B0 B1 B2 : Nat} {W D H x y z : Int} {mp : Option Addr} {mn mc : Nat} {sp : Option Addr} {sn sc : Nat} (h0 : B0 < B2) (h1 : B1 < B2) (hb : Below V.heap.size V V1) (h : B2 < V.heap.size ∧ V.cell? ⟨B0, 0, none⟩ = some (.int .i64 W) ∧ V.cell? ⟨B0, 1, none⟩ = some (.int .i64 D) ∧ V.cell? ⟨B0, 2, none⟩ = some (.int .i64 H) ∧ V.cell? ⟨B0, 3, none⟩ = some (.slice mp mn mc) ∧ V.cell? ⟨B0, 4, none⟩ = some (.slice sp sn sc) ∧ V.cell? ⟨B1, 0, none⟩ = some (.int .i64 x) ∧ V.cell? ⟨B1, 1, none⟩ = some (.int .i64 y) ∧ V.cell? ⟨B1, 2, none⟩ = some (.int .i64 z) ∧ V.cell? ⟨B2, 0, none⟩ = some (.int .i64 26214) ∧ V.cell? ⟨B2, 1, none⟩ = some (.int .i64 26214) ∧ V.cell? ⟨B2, 2, none⟩ = some (.int .i64 58982) ∧ Below w.heap.size w V) : B2 < V1.heap.size ∧ V1.cell? ⟨B0, 0, none⟩ = some (.int .i64 W) ∧ V1.cell? ⟨B0, 1, none⟩ = some (.int .i64 D) ∧ V1.cell? ⟨B0, 2, none⟩ = some (.int .i64 H) ∧ V1.cell? ⟨B0, 3, none⟩ = some (.slice mp mn mc) ∧ V1.cell? ⟨B0, 4, none⟩ = some (.slice sp sn sc) ∧ V1.cell? ⟨B1, 0, none⟩ = some (.int .i64 x) ∧ V1.cell? ⟨B1, 1, none⟩ = some (.int .i64 y) ∧ V1.cell? ⟨B1, 2, none⟩ = some (.int .i64 z) ∧ V1.cell? ⟨B2, 0, none⟩ = some (.int .i64 26214) ∧ V1.cell? ⟨B2, 1, none⟩ = some (.int .i64 26214) ∧ V1.cell? ⟨B2, 2, none⟩ = some (.int .i64 58982) ∧ Below w.heap.size w V1 := by
  obtain ⟨hs, m0, m1, m2, m3, m4, a0, a1, a2, r0, r1, r2, hB⟩ := h
  exact ⟨Nat.lt_of_lt_of_le hs hb.size, keepCell hb (by omega) m0, keepCell hb (by omega) m1, keepCell hb (by omega) m2, keepCell hb (by omega) m3, keepCell hb (by omega) m4, keepCell hb (by omega) a0, keepCell hb (by omega) a1, keepCell hb (by omega) a2, keepCell hb (by omega) r0, keepCell hb (by omega) r1, keepCell hb (by omega) r2, btrans hB hb⟩

end Go.Proofs.Ythcmcjklhcfenaa
