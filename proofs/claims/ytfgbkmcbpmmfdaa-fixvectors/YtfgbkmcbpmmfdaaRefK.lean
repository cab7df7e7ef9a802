/- Layer 1's own answers (embrasureref01): Sqrt. -/
import Derived.Test.YtfgbkmcbpmmfdaaRefI
import Derived.Test.YtfgbkmcbpmmfdaaRefH
namespace Go.Proofs.Ytfgbkmcbpmmfdaa
open Go.RowKit
set_option linter.unusedVariables false
attribute [local go_sem ↓] Go.wp_at_zero Go.wp_at_succ

theorem fsqrt_0 : fsqrt 0 = 0 := by decide +kernel
theorem own1 (W : World) (base g : Nat) (hg : g = W.heap.size) (hb : base ≤ W.heap.size) : (W.alloc (.cells #[.int .u64 0] 47)).ownsRow base 47 1 (.slice (some ⟨g, 0, none⟩) 1 1) 1 [.int .u64 0] := by
  subst hg
  exact ⟨rfl, .inr ⟨W.heap.size, 1, #[.int .u64 0], rfl, hb, heap_alloc_new W _, Nat.le_refl _, by unfold maxLen; omega, rfl, rfl⟩⟩
theorem Row.news {W : World} {b o cap : Nat} {xs : List Nat} (h : Row W (some ⟨b, o, none⟩) cap xs) : ∀ j u, (vals xs)[j]? = some u → W.cell? ((⟨b, o, none⟩ : Addr).add j) = some u := by
  intro j u hj
  unfold vals at hj
  rw [List.getElem?_map] at hj
  rcases Nat.lt_or_ge j xs.length with hlt | hge
  · obtain ⟨b', o', e, _, hc⟩ := h.at hlt
    cases e
    rw [List.getElem?_eq_getElem hlt] at hj
    rw [List.getD_eq_getElem?_getD, List.getElem?_eq_getElem hlt] at hc
    cases hj
    by_cases h0 : j = 0
    · subst h0; simpa [Addr.add] using hc
    · simpa [Addr.add, h0] using hc
  · rw [List.getElem?_eq_none hge] at hj; cases hj
theorem vals_one (xs : List Nat) : ∀ u ∈ vals xs, u.oneCell' = true := by
  intro u hu
  unfold vals at hu
  rw [List.mem_map] at hu
  obtain ⟨d, _, rfl⟩ := hu
  rfl
theorem vals_length (xs : List Nat) : (vals xs).length = xs.length * 1 := by unfold vals; simp
/-- A row with a nought ahead. -/
theorem row_of_owns0 {W : World} {base : Nat} {v : Value} {xs : List Nat} (h : W.ownsRow base 47 1 v (1 + xs.length) ([.int .u64 0] ++ vals xs)) (hd : ∀ d ∈ xs, d < 65536) (ht : Trim xs) (hx : 0 < xs.length) :
    ∃ a cap zs, v = .slice a zs.length cap ∧ Row W a cap zs ∧ Trim zs ∧ Hid (val zs = 65536 * val xs) := by
  have e : 1 + xs.length = (0 :: xs).length := by rw [List.length_cons]; omega
  rw [e] at h
  obtain ⟨a, cap, e1, e2, _⟩ := row_of_owns (ds := 0 :: xs) h (fun d hd' => (List.mem_cons.1 hd').elim (fun e => by omega) (fun e => hd d e))
  refine ⟨a, cap, 0 :: xs, e1, e2, ?_, ?_⟩
  · rcases ht with rfl | ⟨i, d, rfl, h0⟩
    · simp at hx
    · exact .inr ⟨0 :: i, d, rfl, h0⟩
  · exact (by simp [val] : val (0 :: xs) = 65536 * val xs)
theorem row_nil (W : World) : Row W none 0 [] := ⟨Nat.le_refl _, by unfold maxLen; omega, by simp, .inl rfl⟩
theorem sq_fun : Hid ((fun x : Nat => x * x) = fun x => if true then x * x else x * val []) := (by simp : (fun x : Nat => x * x) = fun x => if true then x * x else x * val [])
theorem sqrt_fin {a : Int} {R : Int} {zs xs : List Nat} (h0 : 0 < a) (ha : I64 a) (hR : fsqrt a = R) (hz : val zs = 65536 * val xs) (hx : sgn false (val xs) = a) : ((grGo (fun x => x * x) (val zs) 64 0 : Nat) : Int) = R ∧ R ≤ 9223372036854775807 ∧ 0 ≤ R := by
  have e : grGo (fun x => x * x) (val zs) 64 0 = root (val zs) := grGo_root _ _ _
  have hx' : ((val xs : Nat) : Int) = a := hx
  have e2 : (a * 65536).toNat = val zs := by omega
  have hk := (root_spec (n := val zs) (by have := ha.hi; omega)).1
  have hlt : root (val zs) < 777472127994 := sq_lt (by have := ha.hi; omega)
  clear hk
  unfold fsqrt at hR
  rw [if_neg (by omega), e2] at hR
  rw [e]
  generalize root (val zs) = r at *
  omega
theorem grown_below {w1 w3 : World} {o1 o2 : Obj} {r : Option Nat} (h : ((w1.alloc o1).alloc o2).grownBy w3 r) (hr : r = some (w1.heap.size + 1)) : Below w1.heap.size w1 w3 :=
  Below.grown (((Below.refl _ _).alloc (Nat.le_refl _) _).alloc (by simp) _) h (by simp; omega) (fun k hk => by rw [hr] at hk; have := Option.some.inj hk; omega)
set_option maxHeartbeats 1000000 in
theorem refSqrt (a : Int) (ha : I64 a) (w : World) :
    Calls Try.prog 27 #[.int .i64 a] w fun e w' => e = .returned (.int .i64 (fsqrt a)) ∧ Below w.heap.size w w' := by
  obtain ⟨i0, hi, hz0, hz1, hz2⟩ := info_parts info_u64
  by_cases h0 : a ≤ 0
  · have hR : fsqrt a = 0 := by
      by_cases h : a < 0
      · unfold fsqrt; rw [if_pos h]
      · have : a = 0 := by omega
        subst this; exact fsqrt_0
    rw [hR]
    clear hR
    go_enter Try.func27, Try.ntmps27
    go_wp2
    go_ret
    exact ⟨rfl, Below.refl _ _⟩
  · obtain ⟨R, hR⟩ : ∃ R, fsqrt a = R := ⟨_, rfl⟩
    have HR : Hid _ := hR
    rw [hR]
    clear hR
    go_enter Try.func27, Try.ntmps27
    go_wp2_with fail
    refine (refOf a ha _).mono ?_; rintro e w1 ⟨⟨c1, k1, xs, rfl, r1, v1, m1, t1, l1, f1⟩, b1⟩
    rw [decide_eq_false (by omega)] at v1 ⊢
    have V1 : Hid _ := v1
    have hx0 : 0 < xs.length := by
      rcases Nat.eq_zero_or_pos xs.length with h | h
      · have : xs = [] := List.eq_nil_of_length_eq_zero h
        subst this
        have : (0 : Int) = a := v1
        omega
      · exact h
    obtain ⟨b, o, rfl, _, _⟩ := r1.at hx0
    clear v1 m1 f1
    go_wp2_with (at_builtin; refine wpList_append_own _ rfl _ _ 41 rfl (w1.heap.size) 47 i0 (.int .u64 0) 1 8 Try.underlying41 hi hz0 hz1 hz2 rfl (by decide) _ _ _ rfl (own1 _ _ (w1.heap.size + 1) (by simp) (by simp)) ⟨b, o, none⟩ xs.length k1 (vals xs) rfl (vals_length xs) ((r1.keep (((Below.refl _ _).alloc (Nat.le_refl _) _).alloc (by simp) _)).news) (vals_one xs) (by unfold maxLen; omega) (by omega) (by simp; omega) ?_; intro v' w3 hown' hgrow hnil; clear hnil; obtain ⟨a2, k2, zs, rfl, r2, t2, z2⟩ := row_of_owns0 hown' r1.digits t1 hx0; clear hown'; have b3 := grown_below hgrow rfl; clear hgrow)
    refine (refGreatest true none a2 0 k2 [] zs _ (row_nil _) r2 (by simp) t2 (fun x => x * x) sq_fun).mono ?_; rintro e w4 ⟨rfl, b4⟩
    obtain ⟨e1, e2, e3⟩ := sqrt_fin (by omega) ha HR.out z2.out V1.out
    rw [e1]
    have hB := btrans (btrans b1 b3) b4
    clear e1 b1 b3 b4
    go_wp2
    go_ret
    exact ⟨rfl, hB⟩
end Go.Proofs.Ytfgbkmcbpmmfdaa
