/- Layer 5 (message): the law MessageFields: its table of letters. -/
import Derived.Test.YtnflpgbmhllnaaaMtV
import Derived.Test.YtnflpgbmhllnaaaMsX
namespace Go.Proofs.Ytnflpgbmhllnaaa
open Go.RowKit Go.Shelf
set_option linter.unusedVariables false
set_option linter.unusedSimpArgs false

def strRow : Array Value := #[.string { data := #[] }, .string { data := #[] }, .string { data := #[67] }, .string { data := #[112, 100, 115] }, .string { data := #[] }, .string { data := #[73] }, .string { data := #[83, 86, 87] }, .string { data := #[112, 73] }, .string { data := #[112, 121] }, .string { data := #[84, 116, 66] }]
def strAt (k : Nat) : ByteArray := if k = 2 then { data := #[67] } else if k = 3 then { data := #[112, 100, 115] } else if k = 5 then { data := #[73] } else if k = 6 then { data := #[83, 86, 87] } else if k = 7 then { data := #[112, 73] } else if k = 8 then { data := #[112, 121] } else if k = 9 then { data := #[84, 116, 66] } else { data := #[] }
theorem strRow_at {k : Nat} (h : k < 10) : strRow[k]? = some (.string (strAt k)) := by
  have : k = 0 ∨ k = 1 ∨ k = 2 ∨ k = 3 ∨ k = 4 ∨ k = 5 ∨ k = 6 ∨ k = 7 ∨ k = 8 ∨ k = 9 := by omega
  rcases this with rfl | rfl | rfl | rfl | rfl | rfl | rfl | rfl | rfl | rfl <;> rfl
theorem wpList_load_rowG {P : Program} {ops : Array Oper} {rest : List Oper} {o : Oper} {a : Act} {w : World} {Q : Exit → Act → World → Prop} (hw : Region.wanted o (yielded ops a.tmps) = true) (ty : TypeId) (x : Operand) (ho : o.op = .load ty x)
    (g : Nat) (hx : a.eval x = .pointer (some ⟨g, 0, none⟩)) (t : TypeId) (cs : Array Value) (fr : Nat × Nat) (d : TypeDesc) (hg : w.heap[g]? = some (.cells cs t fr))
    (hu : P.underlying ty = some d) (hd : (match d with | .struct _ | .array _ _ => true | _ => false) = true) (hi : (P.info? ty).map (·.size) = some cs.size)
    (h : wpList P ops Q rest (a.put o.dst (.agg cs)) w) : wpList P ops Q (o :: rest) a w :=
  wpList_step fun K hK => by simp only [hw, if_true]; exact wp_load_row ty x ho g hx t cs fr d hg hu hd hi (hK _ _ h)
theorem wrap16 (n : Int) : 0 ≤ IntKind.u16.wrap n ∧ IntKind.u16.wrap n ≤ 65535 := by
  unfold IntKind.wrap
  simp only [IntKind.signed, Bool.false_and, IntKind.bits]
  rw [if_neg (by simp)]
  omega
theorem wrap32 (n : Int) : 0 ≤ IntKind.u32.wrap n ∧ IntKind.u32.wrap n ≤ 4294967295 := by
  unfold IntKind.wrap
  simp only [IntKind.signed, Bool.false_and, IntKind.bits]
  rw [if_neg (by simp)]
  omega
theorem beq_dec (n : Int) : (n == (0 : Int)) = decide (n = 0) := by
  cases h : decide (n = 0) <;> simp at h <;> simp [h]
/-- Is a letter among the first ones? -/
def anyH (H : ByteArray) (l : Int) (j : Nat) : Bool := (H.data.toList.take j).any fun x => ((x.toNat : Nat) : Int) == l
theorem anyH_succ {H : ByteArray} {l : Int} {j : Nat} (h : j < H.size) : anyH H l (j + 1) = (anyH H l j || (((H[j]'h).toNat : Nat) : Int) == l) := by
  unfold anyH
  have h' : j < H.data.toList.length := by simpa using h
  rw [List.take_add_one, List.getElem?_eq_getElem h', List.any_append]
  simp
  rfl
theorem strAt_size {k : Nat} (hk9 : k = 1 ∨ k = 2 ∨ k = 3 ∨ k = 4 ∨ k = 5 ∨ k = 6 ∨ k = 7 ∨ k = 8 ∨ k = 9) : (strAt k).size ≤ 3 := by
  rcases hk9 with rfl | rfl | rfl | rfl | rfl | rfl | rfl | rfl | rfl <;> decide +kernel
def letN (f : Nat) : Int := ([83, 67, 112, 73, 100, 115, 121, 86, 87, 84, 116, 66] : List Int).getD f 0
theorem anyH_is {k f : Nat} (hk9 : k = 1 ∨ k = 2 ∨ k = 3 ∨ k = 4 ∨ k = 5 ∨ k = 6 ∨ k = 7 ∨ k = 8 ∨ k = 9) (hf : f < 12) (l : Int) (hl : l = letN f) : anyH (strAt k) l (strAt k).size = (hasL k).contains f := by
  subst hl
  have hf12 : f = 0 ∨ f = 1 ∨ f = 2 ∨ f = 3 ∨ f = 4 ∨ f = 5 ∨ f = 6 ∨ f = 7 ∨ f = 8 ∨ f = 9 ∨ f = 10 ∨ f = 11 := by omega
  rcases hk9 with rfl | rfl | rfl | rfl | rfl | rfl | rfl | rfl | rfl <;> rcases hf12 with rfl | rfl | rfl | rfl | rfl | rfl | rfl | rfl | rfl | rfl | rfl | rfl <;> decide +kernel
end Go.Proofs.Ytnflpgbmhllnaaa
