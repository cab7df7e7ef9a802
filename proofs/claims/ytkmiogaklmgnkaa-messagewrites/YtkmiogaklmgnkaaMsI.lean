/- Layer 5 (message): are two messages the same: the program's own answer, and the document's. -/
import Derived.Test.YtkmiogaklmgnkaaMsH
namespace Go.Proofs.Ytkmiogaklmgnkaa
open Go.RowKit Go.Shelf
set_option linter.unusedVariables false
set_option linter.unusedSimpArgs false
attribute [local go_sem ↓] Go.wp_at_zero Go.wp_at_succ

theorem strOfNums_inj {xs ys : List Nat} (hx : ∀ y ∈ xs, y < 256) (hy : ∀ y ∈ ys, y < 256) (h : str xs = str ys) : xs = ys := by
  have h2 := congrArg (fun b : ByteArray => b.data.toList) h
  unfold str at h2
  rw [strOfNums_data, strOfNums_data, List.map_map, List.map_map] at h2
  clear h
  induction xs generalizing ys with
  | nil => cases ys with
    | nil => rfl
    | cons y ys => simp at h2
  | cons x xs ih => cases ys with
    | nil => simp at h2
    | cons y ys =>
      simp only [List.map_cons, List.cons.injEq] at h2
      have hxx := hx x (by simp)
      have hyy := hy y (by simp)
      have e : x = y := by
        have := congrArg UInt8.toNat h2.1
        simp at this
        omega
      rw [e, ih (fun z hz => hx z (by simp [hz])) (fun z hz => hy z (by simp [hz])) h2.2]
theorem str_eq {xs ys : List Nat} (hx : ∀ y ∈ xs, y < 256) (hy : ∀ y ∈ ys, y < 256) : (str xs = str ys) ↔ xs = ys := ⟨strOfNums_inj hx hy, fun h => by rw [h]⟩
theorem str_toList (xs : List Nat) : (str xs).toList = xs.map fun n => UInt8.ofNat n := by
  rw [ByteArray.toList_eq]; unfold str; rw [strOfNums_data, List.map_map]; apply List.map_congr_left; intro n _; simp
theorem str_beq {xs ys : List Nat} (hx : ∀ y ∈ xs, y < 256) (hy : ∀ y ∈ ys, y < 256) : ((str xs).toList == (str ys).toList) = decide (xs = ys) := by
  by_cases e : xs = ys
  · subst e; simp
  · rw [decide_eq_false e]
    have : ¬ (str xs).toList = (str ys).toList := fun h => e (strOfNums_inj hx hy (by rw [str_toList, str_toList] at h; unfold str strOfNums; rw [List.map_map, List.map_map]; congr 2))
    simpa using this
theorem equalF {w : World} {p q : Option Addr} {c d : Nat} {xs ys : List Nat} (ha : Arg w p xs.length c fun i => .int .u8 ((xs.getD i 0 : Nat) : Int)) (hb : Arg w q ys.length d fun i => .int .u8 ((ys.getD i 0 : Nat) : Int)) (hx : ∀ y ∈ xs, y < 256) (hy : ∀ y ∈ ys, y < 256) :
    Calls Try.prog 55 #[.slice p xs.length c, .slice q ys.length d] w fun e w' => e = .returned (.bool (decide (xs = ys))) ∧ Below w.heap.size w w' := by
  have h1 := conv_arg ha
  have h2 := conv_arg hb
  have h3 := str_beq hx hy
  generalize decide (xs = ys) = r at *
  generalize str xs = sx at *
  generalize str ys = sy at *
  go_enter Try.func55, Try.ntmps55
  go_wp2
  go_ret
  exact ⟨rfl, Below.refl _ _⟩
theorem vec_eq (a b : V3) (w : World) : (binOp .eql 37 (.agg #[.int .i64 a.x, .int .i64 a.y, .int .i64 a.z]) (.agg #[.int .i64 b.x, .int .i64 b.y, .int .i64 b.z])).run Try.prog w = .ok (.bool (decide (a = b))) w := by
  have e : a = b ↔ a.x = b.x ∧ a.y = b.y ∧ a.z = b.z := ⟨fun h => by subst h; exact ⟨rfl, rfl, rfl⟩, fun h => V3.ext h.1 h.2.1 h.2.2⟩
  go_simp
  by_cases h1 : a.x = b.x
  · by_cases h2 : a.y = b.y
    · by_cases h3 : a.z = b.z <;> simp [e, h1, h2, h3]
    · simp [e, h1, h2]
  · simp [e, h1]
theorem cmd_eq (a b : Cm) (w : World) : (binOp .eql 35 (.agg #[.int .u16 a.seq, .int .u8 a.but, .int .i8 a.dx, .int .i8 a.dy, .int .i64 a.tk]) (.agg #[.int .u16 b.seq, .int .u8 b.but, .int .i8 b.dx, .int .i8 b.dy, .int .i64 b.tk])).run Try.prog w = .ok (.bool (decide (a = b))) w := by
  have e : a = b ↔ a.seq = b.seq ∧ a.but = b.but ∧ a.dx = b.dx ∧ a.dy = b.dy ∧ a.tk = b.tk := ⟨fun h => by subst h; exact ⟨rfl, rfl, rfl, rfl, rfl⟩, fun h => Cm.ext h.1 h.2.1 h.2.2.1 h.2.2.2.1 h.2.2.2.2⟩
  go_simp
  by_cases h1 : a.seq = b.seq
  · by_cases h2 : a.but = b.but
    · by_cases h3 : a.dx = b.dx
      · by_cases h4 : a.dy = b.dy
        · by_cases h5 : a.tk = b.tk <;> simp [e, h1, h2, h3, h4, h5]
        · simp [e, h1, h2, h3, h4]
      · simp [e, h1, h2, h3]
    · simp [e, h1, h2]
  · simp [e, h1]
end Go.Proofs.Ytkmiogaklmgnkaa
