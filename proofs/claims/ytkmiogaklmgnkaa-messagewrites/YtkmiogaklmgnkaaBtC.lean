/- Layer 3 (bits): what lowest tells; Writer.Put. -/
import Derived.Test.YtkmiogaklmgnkaaBtB
import Derived.Test.YtkmiogaklmgnkaaBtN
namespace Go.Proofs.Ytkmiogaklmgnkaa
open Go.RowKit Go.Shelf
set_option linter.unusedVariables false
attribute [local go_sem] Oper.semAt_some

theorem lowest (n : Int) (c : Int) (w : World) :
    Calls Try.prog 65 #[.int .u64 n, .int .i64 c] w fun e w' => e = .returned (.func (.func 75) #[] #[.pointer (some ⟨w.heap.size + 1, 0, none⟩), .pointer (some ⟨w.heap.size, 0, none⟩)]) ∧ w' = (w.alloc (.cells #[.int .u64 n] 88)).alloc (.cells #[.int .i64 c] 3) := by
  go_enter Try.func65, Try.ntmps65
  go_wp2
  go_ret
  exact ⟨rfl, rfl⟩
set_option maxRecDepth 100000 in
set_option maxHeartbeats 2000000 in
theorem lowest1 (n : Nat) (hn : 1 ≤ n) (X : Nat → Prop) (l Bc Bv : Nat) (x c : Nat) (hc : c ≤ 64) (J Jx : List Bool → World → Prop)
    (hY : ∀ pre y W, J pre W → pre.length < c → YieldAt Fence.wide (n - 1) Try.prog l #[.int .u8 (y.toNat : Int)] W fun e W' =>
      (e = .returned (.bool true) ∧ J (pre ++ [y]) W' ∧ Kc X W W') ∨ (e = .returned (.bool false) ∧ Jx (pre ++ [y]) W'))
    (W : World) (hBc : W.cell? ⟨Bc, 0, none⟩ = some (.int .i64 (c : Int))) (hBv : W.cell? ⟨Bv, 0, none⟩ = some (.int .u64 (x : Int))) (hXc : ¬ X Bc) (hXv : ¬ X Bv) (h0 : J [] W) :
    CallsIn Fence.wide n Try.prog 75 #[.func (.yield l) #[] #[], .pointer (some ⟨Bc, 0, none⟩), .pointer (some ⟨Bv, 0, none⟩)] W fun e W' => (∃ v, e = .returned v) ∧
      ((∃ ys, ys = low x c ∧ J ys W') ∨ (∃ pre, pre <+: low x c ∧ Jx pre W')) := by
  refine callsIn_of_wp Try.func75 rfl trivial ?_ rfl
  simp only [Try.ntmps75, List.size_toArray, List.length_cons, List.length_nil, Nat.reduceAdd, Nat.reduceSub, Array.replicate_succ, Array.replicate_zero, List.push_toArray, List.append_toArray, List.nil_append, List.cons_append]
  have hY' := hid hY
  clear hY
  gi_wp2
  gi_loopw [4] (fun i wr => ∃ k : Nat, k ≤ c ∧ i = .int .i64 ((c : Int) - 1 - k) ∧ J ((low x c).take k) wr ∧ wr.cell? ⟨Bc, 0, none⟩ = some (.int .i64 (c : Int)) ∧ wr.cell? ⟨Bv, 0, none⟩ = some (.int .u64 (x : Int)))
    (fun i _ => (intOf i + 1).toNat)
  case atStart => exact ⟨0, Nat.zero_le _, by simp, by simpa using h0, hBc, hBv⟩
  case round =>
    obtain ⟨k, hk, rfl, hJs, c0, c1⟩ := hrel
    clear hBc hBv h0
    by_cases hlt : k < c
    · obtain ⟨i, hi⟩ : ∃ i : Nat, i = c - 1 - k := ⟨_, rfl⟩
      have hi' : (c : Int) - 1 - k = (i : Int) := by omega
      have hi64 : i < 64 := by omega
      rw [hi']
      obtain ⟨fn, tmps, assign, body, hy, hYR⟩ := hY'.out _ (x.testBit i) _ hJs (by rw [List.length_take, low_length]; omega)
      have i1 : (0 : Int) ≤ (i : Int) := by omega
      have he := low_bit x i
      have hsn : (low x c).take (k + 1) = (low x c).take k ++ [x.testBit i] := by rw [hi]; exact low_take_succ x hlt
      have HSN := hid hsn
      have HI := hid hi'
      have hi2 : (c : Int) - 1 - ((k + 1 : Nat) : Int) = (i : Int) - 1 := by omega
      have HI2 := hid hi2
      have hki : k + 1 ≤ c := hlt
      clear hi' hi hsn hi2 hlt hk hc
      gi_wp2
      refine hYR.mono ?_
      rintro e W3 (⟨rfl, hJ3, hk3⟩ | ⟨rfl, hJx3⟩)
      · have d0 := hk3.cell c0 hXc
        have d1 := hk3.cell c1 hXv
        gi_wp2
        go_roundw
        case rel => exact ⟨k + 1, hki, by rw [HI2.out], by rw [HSN.out]; exact hJ3, d0, d1⟩
        case measure => simp [intOf]
      · gi_wp2
        refine bodyPost_ret (results_none rfl _ _ _) rfl ?_
        exact ⟨⟨_, rfl⟩, .inr ⟨_, by rw [← HSN.out]; exact List.take_prefix _ _, hJx3⟩⟩
    · obtain rfl : k = c := by omega
      have hki : (k : Int) - 1 - k = -1 := by omega
      rw [hki]
      clear hki
      gi_wp2
      go_end0
      rw [List.take_of_length_le (by rw [low_length]; omega)] at hJs
      exact ⟨⟨_, rfl⟩, .inl ⟨_, rfl, hJs⟩⟩
/-- It tells the lowest bits, the highest first. -/
theorem lowest_stops (n : Nat) (hn : 1 ≤ n) (X : Nat → Prop) (Bc Bv x c : Nat) (hc : c ≤ 64) (w : World) (hBc : Vr w Bc 3 (.int .i64 (c : Int))) (hBv : Vr w Bv 88 (.int .u64 (x : Int))) (hXc : ¬ X Bc) (hXv : ¬ X Bv) :
    SeqStopsK Fence.wide n Try.prog 75 #[.pointer (some ⟨Bc, 0, none⟩), .pointer (some ⟨Bv, 0, none⟩)] (fun y : Bool => #[Value.int .u8 (y.toNat : Int)]) (Kc X) (fun ys => ys = low x c) (fun pre => pre <+: low x c) c w := by
  intro l J Jx W hW hJ hJx hY h0
  exact lowest1 n hn X l Bc Bv x c hc J Jx hY W (hBc.below hW hBc.lt).cell (hBv.below hW hBv.lt).cell hXc hXv h0
end Go.Proofs.Ytkmiogaklmgnkaa
