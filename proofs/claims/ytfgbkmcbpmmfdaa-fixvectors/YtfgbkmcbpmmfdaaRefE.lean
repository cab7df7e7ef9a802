/- Layer 1's own answers (embrasureref01): End, Int, behind. -/
import Derived.Test.YtfgbkmcbpmmfdaaRefD
namespace Go.Proofs.Ytfgbkmcbpmmfdaa
open Go.RowKit
set_option linter.unusedVariables false
attribute [local go_sem ↓] Go.wp_at_zero Go.wp_at_succ

/-- The end of a side. -/
def rend (b : Bool) : Int := if b then -9223372036854775808 else 9223372036854775807
theorem refEnd (b : Bool) (w : World) :
    Calls Try.prog 52 #[.bool b] w fun e w' => e = .returned (.int .i64 (rend b)) ∧ w' = w := by
  cases b
  all_goals
    go_enter Try.func52, Try.ntmps52
    go_wp2
    go_ret
    exact ⟨rfl, rfl⟩
theorem numb_rend {q : Int} (b : Bool) (h : 9223372036854775807 < q) : numb q b = rend b := by
  cases b
  · rw [numb_f]; unfold sat rend; rw [if_pos (by omega)]; rfl
  · rw [numb_t]; unfold sat rend
    by_cases e : q = 9223372036854775808
    · subst e; rfl
    · rw [if_neg (by omega), if_pos (by omega)]; rfl
theorem val_drop {ds : List Nat} {k : Nat} (h : k < ds.length) : val (ds.drop k) = ds.getD k 0 + 65536 * val (ds.drop (k + 1)) := by rw [drop_cons h, val]
theorem val_ge_drop (ds : List Nat) (k : Nat) (h : k < ds.length) : 65536 * val (ds.drop (k + 1)) ≤ val ds := by
  have h1 := val_split ds k
  rw [val_drop h] at h1
  have : 1 * (ds.getD k 0 + 65536 * val (ds.drop (k + 1))) ≤ 65536 ^ (ds.take k).length * (ds.getD k 0 + 65536 * val (ds.drop (k + 1))) := Nat.mul_le_mul_right _ (pow_pos' _)
  omega

set_option maxRecDepth 100000 in
set_option maxHeartbeats 2000000 in
theorem refInt (s : Bool) (a : Option Addr) (cap : Nat) (ds : List Nat) (w : World) (h : Row w a cap ds) :
    Calls Try.prog 40 #[.agg #[.bool s, .slice a ds.length cap]] w fun e w' => e = .returned (.int .i64 (numb (val ds : Nat) s)) ∧ Below w.heap.size w w' := by
  have hle := h.le; have hmost := h.most
  unfold maxLen at hmost
  have hB : Below w.heap.size w (w.alloc (.cells #[.bool s, .slice a ds.length cap] 43)) := (Below.refl _ _).alloc (Nat.le_refl _) _
  have hr := h.keep hB
  obtain ⟨R, hR⟩ : ∃ R, numb (val ds : Nat) s = R := ⟨_, rfl⟩
  have HR : Hid _ := hR
  rw [hR]
  clear hR
  go_enter Try.func40, Try.ntmps40
  go_wp2
  go_loop [3, 4] (fun n t => ∃ k : Nat, k ≤ ds.length ∧ t = .int .i64 ((k : Int) - 1) ∧ n = .int .u64 ((val (ds.drop k) : Nat) : Int) ∧ val (ds.drop k) < 18446744073709551616) (fun _ t => (intOf t + 1).toNat)
  case atStart => exact ⟨ds.length, Nat.le_refl _, rfl, by rw [List.drop_length]; rfl, by rw [List.drop_length]; decide⟩
  case round =>
    obtain ⟨k, hk, rfl, rfl, hlt⟩ := hrel
    by_cases h0 : k = 0
    · subst h0
      rw [List.drop_zero] at hlt ⊢
      generalize hV : val ds = V at *
      by_cases hbig : (9223372036854775807 : Int) < (V : Int)
      · have hres : R = rend s := by rw [← HR.out]; exact numb_rend s hbig
        have HE : Hid _ := hres
        clear hV hres
        go_wp2_with fail
        refine (refEnd s _).mono ?_; rintro e W1 ⟨rfl, hw1⟩
        rw [hw1]
        go_wp2
        go_ret
        exact ⟨by rw [HE.out]; rfl, hB⟩
      · have hres : R = if s then -(V : Int) else (V : Int) := by
          rw [← HR.out]; cases s
          · rw [numb_f]; exact sat_id ⟨by omega, by omega⟩
          · rw [numb_t]; exact sat_id ⟨by omega, by omega⟩
        have HE : Hid _ := hres
        clear hV hres
        cases s
        all_goals
          go_wp2
          go_ret
          exact ⟨ret_int HE.out.symm, hB⟩
    · obtain ⟨m, rfl⟩ : ∃ m, k = m + 1 := ⟨k - 1, by omega⟩
      obtain ⟨b, o, rfl, _, hc⟩ := hr.at (i := m) (by omega)
      have hd := getD_lt h.digits m
      have hv := val_drop (ds := ds) (k := m) (by omega)
      have hge := val_ge_drop ds m (by omega)
      generalize ds.getD m 0 = d at *
      generalize val (ds.drop (m + 1)) = V at *
      have m0 : (0 : Int) ≤ (m : Int) := by omega
      have m1 : (m : Int) < (ds.length : Int) := by omega
      by_cases hbig : 281474976710656 ≤ V
      · have hres : R = rend s := by rw [← HR.out]; exact numb_rend s (by omega)
        have HE : Hid _ := hres
        have hb' : (281474976710656 : Int) ≤ (V : Int) := by omega
        clear hres hv hge
        go_wp2_with fail
        refine (refEnd s _).mono ?_; rintro e W1 ⟨rfl, hw1⟩
        rw [hw1]
        go_wp2
        go_ret
        exact ⟨by rw [HE.out]; rfl, hB⟩
      · have hb' : ¬ (281474976710656 : Int) ≤ (V : Int) := by omega
        obtain ⟨Z, eZ⟩ : ∃ Z, d + 65536 * V = Z := ⟨_, rfl⟩
        have w1 : IntKind.u64.wrap ((V : Int) * 65536) = (V : Int) * 65536 := by rw [IntKind.wrap_u64]; omega
        have w2 : IntKind.u64.wrap ((V : Int) * 65536 + (d : Int)) = (Z : Int) := by rw [IntKind.wrap_u64]; omega
        have e2 : Z < 18446744073709551616 := by omega
        rw [eZ] at hv
        have HV : Hid _ := hv
        have E2 : Hid _ := e2
        clear hv hge hbig hlt eZ e2
        go_wp2
        refine ⟨⟨m, ?_, ?_, ?_, ?_⟩, ?_⟩
        · omega
        · rfl
        · rw [HV.out]
        · rw [HV.out]; exact E2.out
        · simp [intOf]

/-- Without its lowest digit. -/
theorem Row.tail {W : World} {b o cap : Nat} {ds : List Nat} (h : Row W (some ⟨b, o, none⟩) cap ds) (hn : 0 < ds.length) : Row W (some ⟨b, o + 1, none⟩) (cap - 1) (ds.drop 1) := by
  have hl : (ds.drop 1).length = ds.length - 1 := List.length_drop
  refine ⟨by rw [hl]; have := h.le; omega, by have := h.most; omega, fun d hd => h.digits d (List.mem_of_mem_drop hd), ?_⟩
  rcases h.cells with rfl | ⟨b', o', e, hlt, hc⟩
  · simp at hn
  · cases e
    refine .inr ⟨b, o + 1, rfl, hlt, fun i hi => ?_⟩
    rw [show o + 1 + i = o + (i + 1) from by omega, hc (i + 1) (by omega), List.getD_eq_getElem?_getD, List.getD_eq_getElem?_getD, List.getElem?_drop, Nat.add_comm 1 i]
theorem val_tail (ds : List Nat) (hd : ∀ d ∈ ds, d < 65536) : val (ds.drop 1) = val ds / 65536 := by
  cases ds with
  | nil => rfl
  | cons d r => have := hd d List.mem_cons_self; simp only [List.drop_succ_cons, List.drop_zero, val]; omega

set_option maxHeartbeats 2000000 in
theorem refBehind (s : Bool) (a : Option Addr) (cap : Nat) (ds : List Nat) (w : World) (hrow : Row w a cap ds) :
    Calls Try.prog 48 #[.agg #[.bool s, .slice a ds.length cap]] w fun e w' =>
      (∃ c cc rs, e = .returned (.agg #[.bool s, .slice c rs.length cc]) ∧ Row w' c cc rs ∧ val rs = val ds / 65536) ∧ Below w.heap.size w w' := by
  have hle := hrow.le; have hmost := hrow.most
  unfold maxLen at hmost
  by_cases h0 : ds.length = 0
  · have hn : ds = [] := List.eq_nil_of_length_eq_zero h0
    subst hn
    go_enter Try.func48, Try.ntmps48
    go_wp2
    refine bodyPost_ret (v := .agg #[.bool s, .slice a 0 cap]) ?_ rfl ⟨⟨a, cap, [], rfl, ⟨hrow.le, hrow.most, hrow.digits, .inl rfl⟩, rfl⟩, ((Below.refl _ _).alloc (Nat.le_refl _) _).alloc (by simp) _⟩
    simp [results, Try.results48, go_sem]
  · obtain ⟨b, o, rfl, hblt, hc⟩ := hrow.at (i := 0) (by omega)
    have hne : ((ds.length : Int) == 0) = false := beq_eq_false_iff_ne.2 (by omega)
    have l1 : (1 : Int) ≤ (ds.length : Int) := by omega
    have hl : (ds.drop 1).length = ds.length - 1 := List.length_drop
    have hB : ∀ x y, Below w.heap.size w ((w.alloc x).alloc y).drew := fun x y => (((Below.refl _ _).alloc (Nat.le_refl _) _).alloc (by simp) _).drew
    have HL : Hid _ := hl
    clear hl
    by_cases hcap : cap = 1
    · subst hcap
      have h1 : ds.length = 1 := by omega
      have hdr : ds.drop 1 = [] := List.eq_nil_of_length_eq_zero (by rw [HL.out]; omega)
      have hv := val_tail ds hrow.digits
      rw [hdr] at hv
      have HV : Hid _ := hv
      have H1 : Hid _ := h1
      clear hv hdr h1
      rw [H1.out]
      go_enter Try.func48, Try.ntmps48
      go_wp2
      go_region
      go_wp2
      refine bodyPost_ret (v := .agg #[.bool s, .slice (some ⟨b, o, none⟩) 0 0]) ?_ rfl ⟨⟨some ⟨b, o, none⟩, 0, [], rfl, ⟨Nat.le_refl _, by unfold maxLen; omega, by simp, .inl rfl⟩, HV.out⟩, hB _ _⟩
      simp [results, Try.results48, go_sem]
    · go_enter Try.func48, Try.ntmps48
      go_wp2
      go_region
      go_wp2
      refine bodyPost_ret (v := .agg #[.bool s, .slice (some ⟨b, o + 1, none⟩) (ds.length - 1) (cap - 1)]) ?_ rfl ⟨⟨some ⟨b, o + 1, none⟩, cap - 1, ds.drop 1, by rw [HL.out], (hrow.tail (by omega)).keep (hB _ _), val_tail ds hrow.digits⟩, hB _ _⟩
      simp [results, Try.results48, go_sem]
end Go.Proofs.Ytfgbkmcbpmmfdaa
