/- Layer 5 (message): are all messages of a row right? -/
import Derived.Test.YtkmiogaklmgnkaaMsK
namespace Go.Proofs.Ytkmiogaklmgnkaa
open Go.RowKit Go.Shelf
set_option linter.unusedVariables false
set_option linter.unusedSimpArgs false
attribute [local go_sem ↓] Go.wp_at_zero Go.wp_at_succ

theorem all_mg (ms : List Msg) (f : Msg → Bool) : ms.all f = true ↔ ∀ k, k < ms.length → f (mg ms k) = true := by
  rw [List.all_eq_true]
  constructor
  · intro h k hk
    unfold mg
    rw [List.getD_eq_getElem?_getD, List.getElem?_eq_getElem hk]
    exact h _ (List.getElem_mem hk)
  · intro h m hm
    obtain ⟨k, hk, rfl⟩ := List.getElem_of_mem hm
    have := h k hk
    unfold mg at this
    rw [List.getD_eq_getElem?_getD, List.getElem?_eq_getElem hk] at this
    exact this
set_option maxRecDepth 100000 in
set_option maxHeartbeats 1000000 in
theorem indexF (p : Option Addr) (cap : Nat) (ms : List Msg) (q : Nat → Option Addr × Nat) (w : World) (h : ArgM w p cap ms q) :
    Calls Try.prog 40 #[.slice p ms.length cap, .func (.func 22) #[] #[]] w fun e w' => (∃ r : Int, e = .returned (.int .i64 r) ∧ decide (0 ≤ r) = !ms.all rgtB) ∧ Below w.heap.size w w' := by
  have hle := h.le; have hmost := h.most
  unfold maxLen at hmost
  go_enter Try.func40, Try.ntmps40
  go_wp2_with fail
  go_loopw [8] (fun i wr => ∃ (j : Nat), i = .int .i64 (j : Int) ∧ j ≤ ms.length ∧ (∀ k, k < j → rgtB (mg ms k) = true) ∧ Below w.heap.size w wr) (fun i _ => ms.length - (intOf i).toNat)
  case atStart => exact ⟨0, rfl, Nat.zero_le _, fun k hk => by omega, Below.refl _ _⟩
  case round =>
    obtain ⟨j, rfl, hj, hall, hb⟩ := hrel
    by_cases hlt : j < ms.length
    · have hA := h.keep hb
      obtain ⟨b, o, rfl, hbl, hc⟩ := hA.at hlt
      have hR := notRightF (mg ms j) (q j).1 (q j).2 wr (hA.ok j hlt) (hA.bytes j hlt)
      have hcj := hc j hlt
      have hm1 : msgC (mg ms j) (.slice (q j).1 (mg ms j).bytes.length (q j).2) = mgC ms q j := rfl
      rw [hm1] at hR
      have hsz : (mgC ms q j).size = 23 := mgC_size ms q j
      generalize mgC ms q j = cs at *
      have Hall := hid hall; have HB := hid hb; have HC := hid hcj
      clear hA hc hcj hb hall hm1
      cases hr : rgtB (mg ms j)
      · rw [hr] at hR
        go_wp2_with (refine wpList_load_at rfl _ rfl b (o + j * 23) rfl cs hsz HC.out ?_)
        refine hR.mono ?_
        rintro e u ⟨rfl, hb2⟩
        dsimp only
        have HB2 := hid (btrans HB.out hb2)
        clear hb2 hR HB
        go_wp2_with fail
        go_ret
        refine ⟨⟨_, rfl, ?_⟩, HB2.out⟩
        have : ms.all rgtB = false := by
          rw [← Bool.not_eq_true, all_mg]; intro h2; rw [h2 j hlt] at hr; cases hr
        rw [this]; simp
      · rw [hr] at hR
        go_wp2_with (refine wpList_load_at rfl _ rfl b (o + j * 23) rfl cs hsz HC.out ?_)
        refine hR.mono ?_
        rintro e u ⟨rfl, hb2⟩
        dsimp only
        have HB2 := hid (btrans HB.out hb2)
        clear hb2 hR HB
        go_wp2_with fail
        go_roundw
        case rel => exact ⟨j + 1, by go_num, by omega, fun k hk => by
          by_cases e : k = j
          · rw [e]; exact hr
          · exact Hall.out k (by omega), HB2.out⟩
        case measure => simp [intOf]; omega
    · have hjn : ¬ (j : Int) < (ms.length : Int) := by omega
      go_wp2_with fail
      go_ret
      refine ⟨⟨_, rfl, ?_⟩, hb⟩
      have : ms.all rgtB = true := (all_mg _ _).2 (fun k hk => hall k (by omega))
      rw [this]; rfl
theorem containsF (p : Option Addr) (cap : Nat) (ms : List Msg) (q : Nat → Option Addr × Nat) (w : World) (h : ArgM w p cap ms q) :
    Calls Try.prog 21 #[.slice p ms.length cap, .func (.func 22) #[] #[]] w fun e w' => e = .returned (.bool (!ms.all rgtB)) ∧ Below w.heap.size w w' := by
  have hI := indexF p cap ms q w h
  generalize ms.all rgtB = r at *
  clear h
  go_enter Try.func21, Try.ntmps21
  go_wp2_with fail
  refine hI.mono ?_
  rintro e u ⟨⟨x, rfl, hx⟩, hb⟩
  dsimp only
  have HB := hid hb
  clear hb hI
  by_cases h0 : 0 ≤ x
  · rw [decide_eq_true h0] at hx
    obtain rfl : r = false := by cases r <;> simp_all
    clear hx
    go_wp2_with fail
    go_ret
    exact ⟨rfl, HB.out⟩
  · rw [decide_eq_false h0] at hx
    obtain rfl : r = true := by cases r <;> simp_all
    clear hx
    go_wp2_with fail
    go_ret
    exact ⟨rfl, HB.out⟩
end Go.Proofs.Ytkmiogaklmgnkaa
