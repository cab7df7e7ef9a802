/- Layer 5 (message): rooms, and the three ways: what their methods do. -/
import Derived.Test.YtkmiogaklmgnkaaMsN
import Derived.Test.YtkmiogaklmgnkaaBtJ
import Derived.Handy
namespace Go.Proofs.Ytkmiogaklmgnkaa
open Go.RowKit Go.Shelf
set_option linter.unusedVariables false
attribute [local go_sem ↓] Go.wp_at_zero Go.wp_at_succ

def rmV (r : Rm) : Value := .agg #[.int .i64 (r.bits : Int), .int .i64 r.least, .int .i64 r.most]
theorem hasF (r : Rm) (n : Int) (w : World) :
    Calls Try.prog 72 #[rmV r, .int .i64 n] w fun e w' => e = .returned (.bool (decide (r.has n))) ∧ Below w.heap.size w w' := by
  obtain ⟨q, hq⟩ : ∃ q, decide (r.has n) = q := ⟨_, rfl⟩
  rw [hq]
  obtain ⟨b, l, m, _⟩ := r
  have hq' : q = (decide (l ≤ n) && decide (n ≤ m)) := by
    rw [← hq, ← Bool.decide_and]; rfl
  clear hq
  unfold rmV
  dsimp only
  by_cases h1 : l ≤ n
  · by_cases h2 : n ≤ m
    · obtain rfl : q = true := by rw [hq', decide_eq_true h1, decide_eq_true h2]; rfl
      clear hq'
      go_enter Try.func72, Try.ntmps72
      go_wp2
      go_ret
      exact ⟨rfl, (Below.refl _ _).alloc (Nat.le_refl _) _⟩
    · obtain rfl : q = false := by rw [hq', decide_eq_false h2, Bool.and_false]
      clear hq'
      go_enter Try.func72, Try.ntmps72
      go_wp2
      go_ret
      exact ⟨rfl, (Below.refl _ _).alloc (Nat.le_refl _) _⟩
  · obtain rfl : q = false := by rw [hq', decide_eq_false h1, Bool.false_and]
    clear hq'
    go_enter Try.func72, Try.ntmps72
    go_wp2
    go_ret
    exact ⟨rfl, (Below.refl _ _).alloc (Nat.le_refl _) _⟩
theorem unsignedF (k : Nat) (hk : k = 16 ∨ k = 2 ∨ k = 10 ∨ k = 8 ∨ k = 32) (w : World) :
    Calls Try.prog 45 #[.int .i64 (k : Int)] w fun e w' => e = .returned (rmV (uns k (by omega))) ∧ Below w.heap.size w w' := by
  rcases hk with rfl | rfl | rfl | rfl | rfl
  all_goals
    go_enter Try.func45, Try.ntmps45
    go_wp2
    go_returns
    exact ⟨rfl, (Below.refl _ _).alloc (Nat.le_refl _) _⟩
theorem signedF (k : Nat) (hk : k = 8 ∨ k = 32) (w : World) :
    Calls Try.prog 47 #[.int .i64 (k : Int)] w fun e w' => e = .returned (rmV (sgd k (by omega))) ∧ Below w.heap.size w w' := by
  rcases hk with rfl | rfl
  all_goals
    go_enter Try.func47, Try.ntmps47
    go_wp2
    go_region
    all_goals go_wp2
    all_goals go_returns
    all_goals exact ⟨rfl, ((Below.refl _ _).drew.alloc (Nat.le_refl _) _)⟩
theorem countF (w : World) :
    Calls Try.prog 24 #[] w fun e w' => e = .returned (rmV rCnt) ∧ Below w.heap.size w w' := by
  go_enter Try.func24, Try.ntmps24
  go_wp2
  go_returns
  exact ⟨rfl, (Below.refl _ _).alloc (Nat.le_refl _) _⟩
/-- A way: which object it is, what it does, how it lies in memory. -/
structure Way (σ : Type) where
  T : TypeId
  b : Nat
  f : Bool → FuncId
  step : Pg.Step σ
  At : σ → (Nat → Prop) → World → Prop
  ok : σ → Prop
  lt : ∀ {s S w}, At s S w → ∀ k, S k → k < w.heap.size
  keep : ∀ {s S S' w w'}, At s S w → Fr S' w w' → (∀ k, S k → ¬ S' k) → At s S w'
  goes : ∀ {s S w} (g : Bool) (n : Int) (r : Rm), At s S w → ok s → Calls Try.prog (f g) #[.pointer (some ⟨b, 0, none⟩), .int .i64 n, rmV r] w fun e w' => e = .returned (.int .i64 (step g s n r).1) ∧ ∃ S', At (step g s n r).2 S' w' ∧ Fr S w w' ∧ Sub w S S'
  res : ∀ (g : Bool) (s : σ) (n : Int) (r : Rm), (step g s n r).1 = n ∨ (step g s n r).1 = 0 ∨ r.has (step g s n r).1
  tight : Prop
  res2 : tight → ∀ (g : Bool) (s : σ) (n : Int) (r : Rm), (step g s n r).1 = 0 ∨ r.has (step g s n r).1
  method : ∀ (g : Bool) (w : World), (Go.method 244 T (.pointer (some ⟨b, 0, none⟩)) (if g then "embrasure/message.sign" else "embrasure/message.number")).run Try.prog w = .ok (f g, .pointer (some ⟨b, 0, none⟩)) w
  enters : ∀ (g : Bool) (args : Array Value) (w : World), (callFunc (f g) args).run Try.prog w = .ok (.enter (f g) args) w
/-- A method of a way, as a value. -/
def Way.fv {σ : Type} (W : Way σ) (g : Bool) : Value := .func (.method (if g then "embrasure/message.sign" else "embrasure/message.number")) #[.iface W.T (.pointer (some ⟨W.b, 0, none⟩))] #[]
end Go.Proofs.Ytkmiogaklmgnkaa
