/- Layer 3 (bits): what next tells; Reader.Get. -/
import Derived.Test.YtkmiogaklmgnkaaBtC
import Derived.Sort.QuietIn
namespace Go.Proofs.Ytkmiogaklmgnkaa
open Go.RowKit Go.Shelf
set_option linter.unusedVariables false
attribute [local go_sem] Oper.semAt_some

theorem nextF (b : Nat) (c : Int) (w : World) :
    Calls Try.prog 59 #[.pointer (some ⟨b, 0, none⟩), .int .i64 c] w fun e w' => e = .returned (.func (.func 73) #[] #[.pointer (some ⟨w.heap.size, 0, none⟩), .pointer (some ⟨w.heap.size + 1, 0, none⟩)]) ∧ w' = (w.alloc (.cells #[.pointer (some ⟨b, 0, none⟩)] 74)).alloc (.cells #[.int .i64 c] 3) := by
  go_enter Try.func59, Try.ntmps59
  go_wp2
  go_ret
  exact ⟨rfl, rfl⟩
theorem RdAt.keepC {w w' : World} {S X : Nat → Prop} {b : Nat} {bs : List Bool} (h : RdAt w S b bs) (hf : Kc X w w') (hd : ∀ k, S k → ¬ X k) : RdAt w' S b bs := by
  obtain ⟨ys, f, v, hb, r⟩ := h; exact ⟨ys, f, v, hb.keepC hf hd, r⟩
theorem Kc.drewN (X : Nat → Prop) (A : World) (n : Nat) : Kc X A (A.drewN n) := Kc.of_fr ((Fr.refl _ _).drewN n)
set_option maxRecDepth 100000 in
set_option maxHeartbeats 2000000 in
theorem next1 (n : Nat) (hn : 1 ≤ n) (X S : Nat → Prop) (l Br Bc b t c : Nat) (ys : List Nat) (v : Value) (J Jx : List Bool → World → Prop)
    (hY : ∀ pre y W, J pre W → pre.length < c → YieldAt Fence.wide (n - 1) Try.prog l #[.int .u8 (y.toNat : Int)] W fun e W' =>
      (e = .returned (.bool true) ∧ J (pre ++ [y]) W' ∧ Kc X W W') ∨ (e = .returned (.bool false) ∧ Jx (pre ++ [y]) W'))
    (W : World) (hJ : AbidesFrom W.heap.size J) (hBr : Vr W Br 74 (.pointer (some ⟨b, 0, none⟩))) (hBc : Vr W Bc 3 (.int .i64 (c : Int))) (hXr : ¬ X Br) (hXc : ¬ X Bc) (hd : ∀ k, S k → ¬ X k)
    (hb : Bx 105 W S b ys t v) (hl : ys.length ≤ 100000) (hc : t + c ≤ 8 * ys.length) (hy : ∀ y ∈ ys, y < 256) (h0 : J [] W) :
    CallsIn Fence.wide n Try.prog 73 #[.func (.yield l) #[] #[], .pointer (some ⟨Br, 0, none⟩), .pointer (some ⟨Bc, 0, none⟩)] W fun e W' => (∃ v, e = .returned v) ∧
      ((∃ zs, zs = ((unpack ys).drop t).take c ∧ J zs W') ∨ (∃ pre, pre <+: ((unpack ys).drop t).take c ∧ Jx pre W')) := by
  have hul : (((unpack ys).drop t).take c).length = c := by rw [List.length_take, List.length_drop, unpack_length]; omega
  have hget : ∀ k, k < c → (((unpack ys).drop t).take c).take (k + 1) = (((unpack ys).drop t).take c).take k ++ [(ys.getD ((t + k) / 8) 0).testBit (7 - (t + k) % 8)] := by
    intro k hk
    rw [List.take_add_one, List.getElem?_take, if_pos hk, List.getElem?_drop, unpack_get _ (by omega)]; rfl
  obtain ⟨rs, hrs⟩ : ∃ rs, ((unpack ys).drop t).take c = rs := ⟨_, rfl⟩
  rw [hrs] at hul hget ⊢
  refine callsIn_of_wp Try.func73 rfl trivial ?_ rfl
  simp only [Try.ntmps73, List.size_toArray, List.length_cons, List.length_nil, Nat.reduceAdd, Nat.reduceSub, Array.replicate_succ, Array.replicate_zero, List.push_toArray, List.append_toArray, List.nil_append, List.cons_append]
  have HY := hid hY
  have HJ := hid hJ
  have HG := hid hget
  have HU := hid hul
  obtain ⟨a0, a1, hblt⟩ := hb.cells
  obtain ⟨p, cap, rfl, hcap, hcm⟩ := hb.form
  unfold maxLen at hcm
  have ar := hBr.cell
  have HB := hid hb; have HR := hid hBr; have HC := hid hBc
  clear hY hJ hget hrs hul hb hBr hBc
  gi_wp2
  gi_loopw [4] (fun i wr => ∃ k : Nat, k ≤ c ∧ i = .int .i64 ((t + k : Nat) : Int) ∧ J (rs.take k) wr ∧ Bx 105 wr S b ys t (.slice p ys.length cap) ∧ Vr wr Br 74 (.pointer (some ⟨b, 0, none⟩)) ∧ Vr wr Bc 3 (.int .i64 (c : Int)))
    (fun i _ => (t : Int).toNat + c - (intOf i).toNat)
  case atStart => exact ⟨0, Nat.zero_le _, by simp, by simpa using h0, HB.out, HR.out, HC.out⟩
  case round =>
    obtain ⟨k, hk, rfl, hJs, hb, hBr, hBc⟩ := hrel
    clear HB HR HC a0 a1 ar h0 hblt
    obtain ⟨a0, a1, hblt⟩ := hb.cells
    have ar := hBr.cell; have ac := hBc.cell
    by_cases hlt : k < c
    · obtain ⟨i, hi⟩ : ∃ i, t + k = i := ⟨_, rfl⟩
      have hi8 : i / 8 < ys.length := by omega
      obtain ⟨g, cap', hv, _, _, _, _, _, hcs, _⟩ := hb.at (j := i / 8) hi8
      cases hv
      have ag := hcs _ hi8
      have HB := hid hb; have HR := hid hBr; have HC := hid hBc
      have hsn := HG.out k hlt
      rw [hi] at hsn ⊢
      have hts : (i : Int) < (t : Int) + (c : Int) := by omega
      obtain ⟨y, hy8⟩ : ∃ y, ys.getD (i / 8) 0 = y := ⟨_, rfl⟩
      rw [hy8] at ag hsn
      obtain ⟨i8, hi8e⟩ : ∃ i8, i / 8 = i8 := ⟨_, rfl⟩
      obtain ⟨m, hm⟩ : ∃ m, 7 - i % 8 = m := ⟨_, rfl⟩
      rw [hi8e] at ag hi8
      rw [hm] at hsn
      have q1 : (i : Int) / 8 = (i8 : Int) := by omega
      have q2 : (7 : Int) - (i : Int) % 8 = (m : Int) := by omega
      have q3 : (i8 : Int) < (ys.length : Int) := by omega
      have q4 : m ≤ 7 := by omega
      have q5 := shr_and_u8 y m
      have HSN := hid hsn
      have hJ2 : ∀ n, J (rs.take k) (wr.drewN n) := fun n => HJ.out _ _ _ none hJs (grown_none (below_drewN _ _)) (fun r e => by cases e)
      have hY2 := fun n => HY.out _ (y.testBit m) _ (hJ2 n) (by rw [List.length_take, HU.out]; omega)
      have HK := hid (show t + (k + 1) = i + 1 by omega)
      have hki : k + 1 ≤ c := hlt
      have hlim : t + c - (i + 1) < t + c - i := by omega
      have HY2 := hid hY2
      have HLIM := hid hlim
      clear hsn hcs hb hBr hBc hJs hJ2 hY2 hy8 hi8e hm hlt hk hlim hi
      gi_wp2
      refine wpIn_wide.2 ?_
      go_quiet (fail)
      obtain ⟨fn, tmps, assign, body, hy', hYR⟩ := HY2.out nq
      gi_wp2
      refine hYR.mono ?_
      rintro e W3 (⟨rfl, hJ3, hk3⟩ | ⟨rfl, hJx3⟩)
      · have hk4 := (Kc.drewN X wr nq).trans hk3
        have HB3 := hid (HB.out.keepC hk4 hd)
        have HR3 := hid (HR.out.keepC hk4 hXr)
        have HC3 := hid (HC.out.keepC hk4 hXc)
        gi_wp2
        go_roundw
        case rel => exact ⟨k + 1, hki, by rw [HK.out]; go_num, by rw [HSN.out]; exact hJ3, HB3.out, HR3.out, HC3.out⟩
        case measure => have := HLIM.out; simp [intOf]; omega
      · gi_wp2
        refine bodyPost_ret (results_none rfl _ _ _) rfl ?_
        exact ⟨⟨_, rfl⟩, .inr ⟨_, by rw [← HSN.out]; exact List.take_prefix _ _, hJx3⟩⟩
    · obtain rfl : k = c := by omega
      have hts : ¬ (((t + k : Nat) : Int)) < (t : Int) + (k : Int) := by omega
      have hJ2 : ∀ n, J (rs.take k) (wr.drewN n) := fun n => HJ.out _ _ _ none hJs (grown_none (below_drewN _ _)) (fun r e => by cases e)
      rw [List.take_of_length_le (by rw [HU.out]; omega)] at hJ2
      have HJ2 := hid hJ2
      clear hb hBr hBc hJ2 hJs
      gi_wp2
      refine wpIn_wide.2 ?_
      go_quiet (fail)
      gi_wp2
      go_end0
      exact ⟨⟨_, rfl⟩, .inl ⟨_, rfl, HJ2.out _⟩⟩
/-- It tells the next bits. -/
theorem next_stops (n : Nat) (hn : 1 ≤ n) (X S : Nat → Prop) (Br Bc b c : Nat) (rs : List Bool) (w : World) (h : RdAt w S b rs) (hc : c ≤ rs.length) (hBr : Vr w Br 74 (.pointer (some ⟨b, 0, none⟩))) (hBc : Vr w Bc 3 (.int .i64 (c : Int))) (hXr : ¬ X Br) (hXc : ¬ X Bc) (hd : ∀ k, S k → ¬ X k) :
    SeqStopsK Fence.wide n Try.prog 73 #[.pointer (some ⟨Br, 0, none⟩), .pointer (some ⟨Bc, 0, none⟩)] (fun y : Bool => #[Value.int .u8 (y.toNat : Int)]) (Kc X) (fun zs => zs = rs.take c) (fun pre => pre <+: rs.take c) c w := by
  intro l J Jx W hW hJ hJx hY h0
  obtain ⟨ys, t, v, hb, rfl, ht, hy, hl⟩ := h
  rw [List.length_drop, unpack_length] at hc
  exact next1 n hn X S l Br Bc b t c ys v J Jx hY W hJ (hBr.below hW hBr.lt) (hBc.below hW hBc.lt) hXr hXc hd (hb.below hW) hl (by omega) hy h0
end Go.Proofs.Ytkmiogaklmgnkaa
