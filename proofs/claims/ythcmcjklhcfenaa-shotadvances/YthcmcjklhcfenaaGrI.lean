/- Layer 9 (grid): the contract of Sight. -/
import Derived.Test.YthcmcjklhcfenaaGrH
namespace Go.Proofs.Ythcmcjklhcfenaa
open Go.RowKit
set_option linter.unusedVariables false
set_option linter.unusedSimpArgs false
attribute [local go_sem ↓] Go.wp_at_zero Go.wp_at_succ

theorem stp3_eq {f t c n1 n2 n3 : Int} {r : Bool} : stp3 f t c r n1 n2 n3 = stp1 f t c r (edgeI n1 n2 n3) (longI n1 n2) := by
  unfold stp3 stpB stp1; simp
theorem sel_stp {f1 f2 f3 t1 t2 t3 c1 c2 c3 e l : Int} {r : Bool} : sel (stp1 f1 t1 c1 r e l) (stp1 f2 t2 c2 r e l) (stp1 f3 t3 c3 r e l) = stp (sel f1 f2 f3) (sel t1 t2 t3) (sel c1 c2 c3) r e l := by
  funext i
  match i with
  | 0 => rfl
  | 1 => rfl
  | n + 2 => rfl
theorem Rg_stp1 {f t c e l : Int} {r : Bool} (h : Rg f t c) : Rg f t (stp1 f t c r e l) := by
  unfold stp1; split
  · rename_i k; exact Rg_step h k.2.1
  · exact h
theorem AxOk_of {f t c : Int} (f0 : 0 ≤ f) (f1 : f < 2097152) (t0 : 0 ≤ t) (t1 : t < 2097152) (h : Rg f t c) : AxOk f t c := by
  obtain ⟨h1, h2⟩ := h
  by_cases e : f < t
  · have := h1 e; exact ⟨by omega, by omega, by omega, by omega, by omega, by omega⟩
  · have := h2 (by omega); exact ⟨by omega, by omega, by omega, by omega, by omega, by omega⟩
theorem Fr.cellK {w w' : World} {S : Nat → Prop} (hf : Fr S w w') {b o : Nat} {v : Value} (hlt : b < w.heap.size) (hS : ¬ S b) (h : w.cell? ⟨b, o, none⟩ = some v) : w'.cell? ⟨b, o, none⟩ = some v := by
  unfold World.cell? at h ⊢
  rw [hf.block b hlt hS]; exact h
theorem MapAt.fr {w w' : World} {S : Nat → Prop} {b : Nat} {W D H : Int} {x y : Value} (h : MapAt w b W D H x y) (hf : Fr S w w') (hS : ¬ S b) : MapAt w' b W D H x y :=
  ⟨Nat.lt_of_lt_of_le h.lt hf.size, hf.cellK h.lt hS h.c0, hf.cellK h.lt hS h.c1, hf.cellK h.lt hS h.c2, hf.cellK h.lt hS h.c3, hf.cellK h.lt hS h.c4⟩
theorem blind_a {M : Mp} {a b : V3} (h : ¬ M.Free (a.x / 65536) (a.y / 65536) (a.z / 65536)) : ¬ M.Sees a b := fun hs => h (by
  have := hs 0 (by grind) (by grind)
  rw [Mp.At.of (x := a.x / 65536) (y := a.y / 65536) (z := a.z / 65536)] at this
  · exact this
  · rw [posn_0]; exact InC.of _
  · rw [posn_0]; exact InC.of _
  · rw [posn_0]; exact InC.of _)
theorem blind_b {M : Mp} {a b : V3} (h : ¬ M.Free (b.x / 65536) (b.y / 65536) (b.z / 65536)) : ¬ M.Sees a b := fun hs => h (by
  have := hs 1 (by grind) (by grind)
  rw [Mp.At.of (x := b.x / 65536) (y := b.y / 65536) (z := b.z / 65536)] at this
  · exact this
  · rw [posn_1]; exact InC.of _
  · rw [posn_1]; exact InC.of _
  · rw [posn_1]; exact InC.of _)
theorem Free.near {M : Mp} {x y z : Int} (h : M.Free (x / 65536) (y / 65536) (z / 65536)) : (0 ≤ x ∧ x < 2097152) ∧ (0 ≤ y ∧ y < 2097152) ∧ (0 ≤ z ∧ z < 2097152) := by
  obtain ⟨⟨_, _, _, _, _, _, _⟩, _, _, _, _, _, _, _⟩ := h
  omega
theorem all_sel {p : Int → Int → Int → Prop} {f1 f2 f3 t1 t2 t3 c1 c2 c3 : Int} (h1 : p f1 t1 c1) (h2 : p f2 t2 c2) (h3 : p f3 t3 c3) : ∀ i, p (sel f1 f2 f3 i) (sel t1 t2 t3 i) (sel c1 c2 c3 i)
  | 0 => h1
  | 1 => h2
  | _ + 2 => h3
theorem Nx.first3 {F T C : Nat → Int} {x y z : Int} (hF : ∀ i, F (i + 2) = F 2) (hT : ∀ i, T (i + 2) = T 2) (hC : ∀ i, C (i + 2) = C 2) (h : Nx F T C 3 true x y z) : ∃ k, k < 3 ∧ First F T C k ∧ x = F k ∧ y = T k ∧ z = C k := by
  cases h with
  | yes k hk g h =>
    refine ⟨k, hk, ⟨g, fun j gj => ?_⟩, rfl, rfl, rfl⟩
    by_cases e : j < 3
    · exact h j e gj
    · obtain ⟨i, rfl⟩ : ∃ i, j = i + 2 := ⟨j - 2, by omega⟩
      rw [hF, hT, hC] at *
      exact h 2 (by omega) gj
theorem Nx.none3 {F T C : Nat → Int} {x y z : Int} (hF : ∀ i, F (i + 2) = F 2) (hT : ∀ i, T (i + 2) = T 2) (hC : ∀ i, C (i + 2) = C 2) (h : Nx F T C 3 false x y z) : ∀ j, ¬ Goes (T j) (C j) := by
  cases h with
  | no h =>
    intro j
    by_cases e : j < 3
    · exact h j e
    · obtain ⟨i, rfl⟩ : ∃ i, j = i + 2 := ⟨j - 2, by omega⟩
      rw [hT, hC]
      exact h 2 (by omega)
theorem rd_eq {w : World} {b o : Nat} {v : Value} (h : w.cell? ⟨b, o, none⟩ = some v) : rd w b o = v := by unfold rd; rw [h]; rfl
theorem sel_far {x y z : Int} : ∀ i, sel x y z (i + 2) = sel x y z 2 := fun _ => rfl
end Go.Proofs.Ythcmcjklhcfenaa
