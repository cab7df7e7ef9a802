/- Layer 9 (grid): the contracts of Clear and Right; rows of vectors that came in. -/
import Derived.Test.YthcmcjklhcfenaaGrC
import Derived.Deep.SlicePairs
namespace Go.Proofs.Ythcmcjklhcfenaa
open Go.ChangeShapes Go.WideShapes Go.ChangeAt Go.RowKit Go.Joins
set_option linter.unusedVariables false
set_option linter.unusedSimpArgs false
attribute [local go_sem ↓] Go.wp_at_zero Go.wp_at_succ

theorem gridClear (W D H : Int) (mp : Option Addr) (mn mc : Nat) (mf : Nat → Bool) (sp : Option Addr) (sn sc : Nat) (a1 a2 a3 : Int) (b1 b2 b3 : Int) (ha1 : I64 a1) (ha2 : I64 a2) (ha3 : I64 a3) (hb1 : I64 b1) (hb2 : I64 b2) (hb3 : I64 b3) (w : World) (hm : Arg w mp mn mc fun i => .bool (mf i)) (s : Bool) (hs : s = true ↔ (mpOf W D H mn mf).Clear ⟨a1, a2, a3⟩ ⟨b1, b2, b3⟩) :
    Calls Try.prog 27 #[.agg #[.int .i64 W, .int .i64 D, .int .i64 H, .slice mp mn mc, .slice sp sn sc], .agg #[.int .i64 a1, .int .i64 a2, .int .i64 a3], .agg #[.int .i64 b1, .int .i64 b2, .int .i64 b3]] w fun e w' => e = .returned (.bool s) ∧ Below w.heap.size w w' := by
  by_cases h1 : a1 < b1
  · by_cases h2 : a2 < b2
    · by_cases h3 : a3 < b3
      · exact gridClearIn W D H mp mn mc mf sp sn sc a1 a2 a3 b1 b2 b3 ha1 ha2 ha3 hb1 hb2 hb3 h1 h2 h3 w hm s ⟨fun e => hs.1 e h1 h2 h3, fun e => hs.2 fun _ _ _ => e⟩
      · obtain rfl : s = true := hs.2 fun _ _ k => absurd k h3
        clear hs
        go_enter Try.func27, Try.ntmps27
        go_wp2
        go_ret
        exact ⟨rfl, (((Below.refl _ _).alloc (Nat.le_refl _) _).alloc (by simp) _).alloc (by simp; omega) _⟩
    · obtain rfl : s = true := hs.2 fun _ k _ => absurd k h2
      clear hs
      go_enter Try.func27, Try.ntmps27
      go_wp2
      go_ret
      exact ⟨rfl, (((Below.refl _ _).alloc (Nat.le_refl _) _).alloc (by simp) _).alloc (by simp; omega) _⟩
  · obtain rfl : s = true := hs.2 fun k _ _ => absurd k h1
    clear hs
    go_enter Try.func27, Try.ntmps27
    go_wp2
    go_ret
    exact ⟨rfl, (((Below.refl _ _).alloc (Nat.le_refl _) _).alloc (by simp) _).alloc (by simp; omega) _⟩

/-- Vectors. -/
structure ArgW (w : World) (p : Option Addr) (n cap : Nat) (X Y Z : Nat → Int) : Prop where
  le : n ≤ cap
  most : cap ≤ maxLen
  cells : n = 0 ∨ ∃ b o, p = some ⟨b, o, none⟩ ∧ b < w.heap.size ∧ ∀ i, i < n → w.cell? ⟨b, o + i * 3, none⟩ = some (.int .i64 (X i)) ∧ w.cell? ⟨b, o + i * 3 + 1, none⟩ = some (.int .i64 (Y i)) ∧ w.cell? ⟨b, o + i * 3 + 2, none⟩ = some (.int .i64 (Z i))
theorem ArgW.keep {w w' : World} {p : Option Addr} {n cap : Nat} {X Y Z : Nat → Int} (h : ArgW w p n cap X Y Z) (hb : Below w.heap.size w w') : ArgW w' p n cap X Y Z := by
  refine ⟨h.le, h.most, ?_⟩
  rcases h.cells with h | ⟨b, o, rfl, hlt, hc⟩
  · exact .inl h
  · refine .inr ⟨b, o, rfl, Nat.lt_of_lt_of_le hlt hb.size, fun i hi => ?_⟩
    obtain ⟨h1, h2, h3⟩ := hc i hi
    exact ⟨(hb.cell (p := ⟨b, _, none⟩) hlt).trans h1, (hb.cell (p := ⟨b, _, none⟩) hlt).trans h2, (hb.cell (p := ⟨b, _, none⟩) hlt).trans h3⟩
theorem ArgW.cut {w : World} {p : Option Addr} {n cap m : Nat} {X Y Z : Nat → Int} (h : ArgW w p n cap X Y Z) (hm : m ≤ n) : ArgW w p m cap X Y Z := by
  refine ⟨Nat.le_trans hm h.le, h.most, ?_⟩
  rcases h.cells with h | ⟨b, o, hp, hb, hc⟩
  · exact .inl (by omega)
  · exact .inr ⟨b, o, hp, hb, fun i hi => hc i (by omega)⟩
theorem ArgW.at {w : World} {p : Option Addr} {n cap : Nat} {X Y Z : Nat → Int} (h : ArgW w p n cap X Y Z) {i : Nat} (hi : i < n) : ∃ b o, p = some ⟨b, o, none⟩ ∧ b < w.heap.size ∧ ∀ i, i < n → w.cell? ⟨b, o + i * 3, none⟩ = some (.int .i64 (X i)) ∧ w.cell? ⟨b, o + i * 3 + 1, none⟩ = some (.int .i64 (Y i)) ∧ w.cell? ⟨b, o + i * 3 + 2, none⟩ = some (.int .i64 (Z i)) := by
  rcases h.cells with h | h
  · omega
  · exact h
theorem Arg.cut {w : World} {p : Option Addr} {n cap m : Nat} {f : Nat → Value} (h : Arg w p n cap f) (hm : m ≤ n) : Arg w p m cap f := by
  refine ⟨Nat.le_trans hm h.le, h.most, ?_⟩
  rcases h.cells with h | ⟨b, o, hp, hb, hc⟩
  · exact .inl (by omega)
  · exact .inr ⟨b, o, hp, hb, fun i hi => hc i (by omega)⟩
theorem keepR {w2 V V1 : World} {B0 B1 B2 : Nat} {W D H x y z : Int} {mp : Option Addr} {mn mc : Nat} {sp : Option Addr} {sn sc : Nat} (h0 : B0 < B2) (h1 : B1 < B2) (hb : Below V.heap.size V V1) (h : B2 < V.heap.size ∧ V.cell? ⟨B0, 0, none⟩ = some (.int .i64 W) ∧ V.cell? ⟨B0, 1, none⟩ = some (.int .i64 D) ∧ V.cell? ⟨B0, 2, none⟩ = some (.int .i64 H) ∧ V.cell? ⟨B0, 3, none⟩ = some (.slice mp mn mc) ∧ V.cell? ⟨B0, 4, none⟩ = some (.slice sp sn sc) ∧ V.cell? ⟨B1, 0, none⟩ = some (.int .i64 26214) ∧ V.cell? ⟨B1, 1, none⟩ = some (.int .i64 26214) ∧ V.cell? ⟨B1, 2, none⟩ = some (.int .i64 58982) ∧ V.cell? ⟨B2, 0, none⟩ = some (.int .i64 x) ∧ V.cell? ⟨B2, 1, none⟩ = some (.int .i64 y) ∧ V.cell? ⟨B2, 2, none⟩ = some (.int .i64 z) ∧ Below w2.heap.size w2 V) : B2 < V1.heap.size ∧ V1.cell? ⟨B0, 0, none⟩ = some (.int .i64 W) ∧ V1.cell? ⟨B0, 1, none⟩ = some (.int .i64 D) ∧ V1.cell? ⟨B0, 2, none⟩ = some (.int .i64 H) ∧ V1.cell? ⟨B0, 3, none⟩ = some (.slice mp mn mc) ∧ V1.cell? ⟨B0, 4, none⟩ = some (.slice sp sn sc) ∧ V1.cell? ⟨B1, 0, none⟩ = some (.int .i64 26214) ∧ V1.cell? ⟨B1, 1, none⟩ = some (.int .i64 26214) ∧ V1.cell? ⟨B1, 2, none⟩ = some (.int .i64 58982) ∧ V1.cell? ⟨B2, 0, none⟩ = some (.int .i64 x) ∧ V1.cell? ⟨B2, 1, none⟩ = some (.int .i64 y) ∧ V1.cell? ⟨B2, 2, none⟩ = some (.int .i64 z) ∧ Below w2.heap.size w2 V1 := by
  obtain ⟨hs, m0, m1, m2, m3, m4, r0, r1, r2, a0, a1, a2, hB⟩ := h
  exact ⟨Nat.lt_of_lt_of_le hs hb.size, keepCell hb (by omega) m0, keepCell hb (by omega) m1, keepCell hb (by omega) m2, keepCell hb (by omega) m3, keepCell hb (by omega) m4, keepCell hb (by omega) r0, keepCell hb (by omega) r1, keepCell hb (by omega) r2, keepCell hb (by omega) a0, keepCell hb (by omega) a1, keepCell hb (by omega) a2, btrans hB hb⟩
/-- A player has room there. -/
def Mp.Room (M : Mp) (x y z : Int) : Prop := M.Clear ⟨sat (x - 26214), sat (y - 26214), sat (z - 58982)⟩ ⟨sat (x + 26214), sat (y + 26214), sat (z + 58982)⟩
def Mp.RightP (M : Mp) (n : Nat) (X Y Z : Nat → Int) : Prop := M.Sized ∧ n ≠ 0 ∧ n ≤ 64 ∧ ∀ i, i < n → M.Room (X i) (Y i) (Z i)

set_option maxHeartbeats 2000000 in
theorem gridRight (W D H : Int) (mp : Option Addr) (mn mc : Nat) (mf : Nat → Bool) (sp : Option Addr) (sn sc : Nat) (X Y Z : Nat → Int) (hX : ∀ i, I64 (X i) ∧ I64 (Y i) ∧ I64 (Z i)) (w : World) (hm : Arg w mp mn mc fun i => .bool (mf i)) (hv : ArgW w sp sn sc X Y Z) (r : Bool) (hr : r = true ↔ (mpOf W D H mn mf).RightP sn X Y Z) :
    Calls Try.prog 18 #[.agg #[.int .i64 W, .int .i64 D, .int .i64 H, .slice mp mn mc, .slice sp sn sc]] w fun e w' => e = .returned (.int .i64 (if r then 0 else 1)) ∧ Below w.heap.size w w' := by
  have hsz := fun W' => gridSized W D H mp mn mc mf sp sn sc W'
  have hle := hv.le; have hmost := hv.most
  unfold maxLen at hmost
  by_cases hs : (mpOf W D H mn mf).Sized
  · rw [decide_eq_true hs] at hsz
    by_cases h0 : sn = 0
    · have hF : r = false := by
        cases r with
        | false => rfl
        | true => exact absurd (hr.1 rfl) (by rintro ⟨q0, q1, q2, q3⟩; first | exact hs q0 | exact q1 h0 | exact h64 q2)
      subst hF
      clear hr
      subst h0
      go_enter Try.func18, Try.ntmps18
      go_wp2_with fail
      refine (hsz _).mono ?_; rintro e W1 ⟨rfl, B1⟩
      have M1 := (MapAt.new w W D H (.slice mp mn mc) (.slice sp 0 sc) 25).keep B1
      have B1' : Below w.heap.size w W1 := ((Below.refl _ _).alloc (Nat.le_refl _) _).trans (B1.mono (by simp))
      obtain ⟨ml, m0, m1, m2, m3, m4⟩ := M1
      go_wp2
      go_ret
      exact ⟨rfl, B1'⟩
    · by_cases h64 : sn ≤ 64
      · have HR := hid hr
        have HMA := hid hm
        have HV := hid hv
        clear hr hm hv
        have h0' : ((sn : Int) == 0) = false := beq_eq_false_iff_ne.2 (by omega)
        go_enter Try.func18, Try.ntmps18
        go_wp2_with fail
        refine (hsz _).mono ?_; rintro e W1 ⟨rfl, B1⟩
        have M1 := (MapAt.new w W D H (.slice mp mn mc) (.slice sp sn sc) 25).keep B1
        have B1' : Below w.heap.size w W1 := ((Below.refl _ _).alloc (Nat.le_refl _) _).trans (B1.mono (by simp))
        have HM := hid M1
        have HB := hid B1'
        obtain ⟨ml, m0, m1, m2, m3, m4⟩ := M1
        clear B1 B1' hsz
        have hsn : (sn : Int) ≤ 64 := by omega
        go_wp2
        obtain ⟨W2, hW2⟩ : ∃ W2, W1.alloc (.cells #[.int .i64 26214, .int .i64 26214, .int .i64 58982] 27) = W2 := ⟨_, rfl⟩
        obtain ⟨B1, hB1⟩ : ∃ b, W1.heap.size = b := ⟨_, rfl⟩
        obtain ⟨B0, hB0⟩ : ∃ b, w.heap.size = b := ⟨_, rfl⟩
        have hbel : Below W1.heap.size W1 W2 := hW2 ▸ (Below.refl _ _).alloc (Nat.le_refl _) _
        have hB2 : B1 < W2.heap.size := by rw [← hW2, ← hB1]; simp
        have hB01 : B0 < B1 := by rw [← hB1, ← hB0]; exact ml
        have q0 : W2.cell? ⟨B1, 0, none⟩ = some (.int .i64 26214) := by rw [← hW2, ← hB1]; simp [go_sem]
        have q1 : W2.cell? ⟨B1, 1, none⟩ = some (.int .i64 26214) := by rw [← hW2, ← hB1]; simp [go_sem]
        have q2 : W2.cell? ⟨B1, 2, none⟩ = some (.int .i64 58982) := by rw [← hW2, ← hB1]; simp [go_sem]
        have M2 := HM.out.keep hbel
        have HB2 := hid (btrans HB.out hbel)
        rw [hB0] at M2
        simp only [hW2, hB1, hB0]
        clear ml m0 m1 m2 m3 m4 hbel hW2
        obtain ⟨_, m0, m1, m2, m3, m4⟩ := M2
        go_loopw [25] (fun v wr => ∃ i : Nat, v = .int .i64 i ∧ i ≤ sn ∧ Hid (∀ j, j < i → (mpOf W D H mn mf).Room (X j) (Y j) (Z j)) ∧ Below W2.heap.size W2 wr) (fun v _ => sn - (intOf v).toNat)
        case atStart => exact ⟨0, rfl, Nat.zero_le _, hid (fun j e => by omega), Below.refl _ _⟩
        case round =>
          obtain ⟨i, rfl, hi, hroom, hbr⟩ := hrel
          by_cases hlt : i < sn
          · obtain ⟨sb, so, rfl, hsb, hsc⟩ := (HV.out.keep (btrans HB2.out hbr)).at hlt
            obtain ⟨x, hx⟩ : ∃ x, X i = x := ⟨_, rfl⟩
            obtain ⟨y, hy⟩ : ∃ x, Y i = x := ⟨_, rfl⟩
            obtain ⟨z, hz⟩ : ∃ x, Z i = x := ⟨_, rfl⟩
            obtain ⟨s0, s1, s2⟩ := hsc i hlt
            rw [hx] at s0
            rw [hy] at s1
            rw [hz] at s2
            obtain ⟨ix, iy, iz⟩ := hX i
            rw [hx] at ix
            rw [hy] at iy
            rw [hz] at iz
            obtain ⟨s, hsr⟩ := boolOf ((mpOf W D H mn mf).Room x y z)
            have hcl : ∀ V, Below W2.heap.size W2 V → _ := fun V hV => gridClear W D H mp mn mc mf (some ⟨sb, so, none⟩) sn sc _ _ _ _ _ _ (sat_i64 (x - 26214)) (sat_i64 (y - 26214)) (sat_i64 (z - 58982)) (sat_i64 (x + 26214)) (sat_i64 (y + 26214)) (sat_i64 (z + 58982)) V (HMA.out.keep (btrans HB2.out hV)) s hsr
            have HCL := hid hcl
            clear hcl hsc
            have k0 : wr.cell? ⟨B1, 0, none⟩ = some (.int .i64 26214) := keepCell hbr hB2 q0
            have k1 : wr.cell? ⟨B1, 1, none⟩ = some (.int .i64 26214) := keepCell hbr hB2 q1
            have k2 : wr.cell? ⟨B1, 2, none⟩ = some (.int .i64 58982) := keepCell hbr hB2 q2
            have n0 : wr.cell? ⟨B0, 0, none⟩ = some (.int .i64 W) := keepCell hbr (by omega) m0
            have n1 : wr.cell? ⟨B0, 1, none⟩ = some (.int .i64 D) := keepCell hbr (by omega) m1
            have n2 : wr.cell? ⟨B0, 2, none⟩ = some (.int .i64 H) := keepCell hbr (by omega) m2
            have n3 : wr.cell? ⟨B0, 3, none⟩ = some (.slice mp mn mc) := keepCell hbr (by omega) m3
            have n4 : wr.cell? ⟨B0, 4, none⟩ = some (.slice (some ⟨sb, so, none⟩) sn sc) := keepCell hbr (by omega) m4
            have hB2r : B1 < wr.heap.size := Nat.lt_of_lt_of_le hB2 hbr.size
            go_wp2
            obtain ⟨W3, hW3⟩ : ∃ V, wr.alloc (.cells #[.int .i64 x, .int .i64 y, .int .i64 z] 27) = V := ⟨_, rfl⟩
            obtain ⟨B2, hB2'⟩ : ∃ b, wr.heap.size = b := ⟨_, rfl⟩
            have hst : B2 < W3.drew.heap.size ∧ W3.drew.cell? ⟨B0, 0, none⟩ = some (.int .i64 W) ∧ W3.drew.cell? ⟨B0, 1, none⟩ = some (.int .i64 D) ∧ W3.drew.cell? ⟨B0, 2, none⟩ = some (.int .i64 H) ∧ W3.drew.cell? ⟨B0, 3, none⟩ = some (.slice mp mn mc) ∧ W3.drew.cell? ⟨B0, 4, none⟩ = some (.slice (some ⟨sb, so, none⟩) sn sc) ∧ W3.drew.cell? ⟨B1, 0, none⟩ = some (.int .i64 26214) ∧ W3.drew.cell? ⟨B1, 1, none⟩ = some (.int .i64 26214) ∧ W3.drew.cell? ⟨B1, 2, none⟩ = some (.int .i64 58982) ∧ W3.drew.cell? ⟨B2, 0, none⟩ = some (.int .i64 x) ∧ W3.drew.cell? ⟨B2, 1, none⟩ = some (.int .i64 y) ∧ W3.drew.cell? ⟨B2, 2, none⟩ = some (.int .i64 z) ∧ Below W2.heap.size W2 W3.drew := by
              subst hW3; subst hB2'
              exact ⟨by simp, Lib.cell?_alloc_some _ n0, Lib.cell?_alloc_some _ n1, Lib.cell?_alloc_some _ n2, Lib.cell?_alloc_some _ n3, Lib.cell?_alloc_some _ n4, Lib.cell?_alloc_some _ k0, Lib.cell?_alloc_some _ k1, Lib.cell?_alloc_some _ k2, by simp [go_sem], by simp [go_sem], by simp [go_sem], (hbr.alloc (Nat.le_trans (by omega) hbr.size) _).drew⟩
            have hb02 : B0 < B2 := by omega
            have hb12 : B1 < B2 := by omega
            simp only [hW3, hB2']
            have hdl : ∀ Q : World, (B2 < Q.heap.size ∧ Q.cell? ⟨B0, 0, none⟩ = some (.int .i64 W) ∧ Q.cell? ⟨B0, 1, none⟩ = some (.int .i64 D) ∧ Q.cell? ⟨B0, 2, none⟩ = some (.int .i64 H) ∧ Q.cell? ⟨B0, 3, none⟩ = some (.slice mp mn mc) ∧ Q.cell? ⟨B0, 4, none⟩ = some (.slice (some ⟨sb, so, none⟩) sn sc) ∧ Q.cell? ⟨B1, 0, none⟩ = some (.int .i64 26214) ∧ Q.cell? ⟨B1, 1, none⟩ = some (.int .i64 26214) ∧ Q.cell? ⟨B1, 2, none⟩ = some (.int .i64 58982) ∧ Q.cell? ⟨B2, 0, none⟩ = some (.int .i64 x) ∧ Q.cell? ⟨B2, 1, none⟩ = some (.int .i64 y) ∧ Q.cell? ⟨B2, 2, none⟩ = some (.int .i64 z) ∧ Below W2.heap.size W2 Q) → Below W2.heap.size W2 Q := fun Q h => h.2.2.2.2.2.2.2.2.2.2.2.2
            go_region_held3 (fun Q => B2 < Q.heap.size ∧ Q.cell? ⟨B0, 0, none⟩ = some (.int .i64 W) ∧ Q.cell? ⟨B0, 1, none⟩ = some (.int .i64 D) ∧ Q.cell? ⟨B0, 2, none⟩ = some (.int .i64 H) ∧ Q.cell? ⟨B0, 3, none⟩ = some (.slice mp mn mc) ∧ Q.cell? ⟨B0, 4, none⟩ = some (.slice (some ⟨sb, so, none⟩) sn sc) ∧ Q.cell? ⟨B1, 0, none⟩ = some (.int .i64 26214) ∧ Q.cell? ⟨B1, 1, none⟩ = some (.int .i64 26214) ∧ Q.cell? ⟨B1, 2, none⟩ = some (.int .i64 58982) ∧ Q.cell? ⟨B2, 0, none⟩ = some (.int .i64 x) ∧ Q.cell? ⟨B2, 1, none⟩ = some (.int .i64 y) ∧ Q.cell? ⟨B2, 2, none⟩ = some (.int .i64 z) ∧ Below W2.heap.size W2 Q)
              (first | assumption | exact keepR (by assumption) (by assumption) (by assumption) (by assumption))
              (first
                | (go_at_call 28; refine (fixVecMinus x y z 26214 26214 58982 ix iy iz ⟨by omega, by omega⟩ ⟨by omega, by omega⟩ ⟨by omega, by omega⟩ _).mono ?_; rintro e V1 ⟨rfl, bel1⟩)
                | (go_at_call 29; refine (fixVecPlus x y z 26214 26214 58982 ix iy iz ⟨by omega, by omega⟩ ⟨by omega, by omega⟩ ⟨by omega, by omega⟩ _).mono ?_; rintro e V1 ⟨rfl, bel1⟩)
                | (go_at_call 27; refine (HCL.out _ (hdl _ (by assumption))).mono ?_; rintro e V1 ⟨rfl, bel1⟩))
            rename_i hH
            have hB4 := hdl _ hH
            clear hH hst hdl HCL hW3 hB2'
            cases s with
            | true =>
              have hnew : Hid (∀ j, j < i + 1 → (mpOf W D H mn mf).Room (X j) (Y j) (Z j)) := hid (fun j hj => by
                by_cases e : j = i
                · rw [e, hx, hy, hz]; exact hsr.1 rfl
                · exact hroom.out j (by omega))
              clear hsr hx hy hz
              go_wp2
              exact ⟨⟨i + 1, by go_num, by omega, hnew, hB4⟩, by simp [intOf]; omega⟩
            | false =>
              have hF : r = false := by
                cases r with
                | false => rfl
                | true =>
                  have := (HR.out.1 rfl).2.2.2 i hlt
                  rw [hx, hy, hz] at this
                  exact absurd (hsr.2 this) (by decide)
              subst hF
              clear hsr hx hy hz
              go_wp2
              go_ret
              exact ⟨rfl, by rw [hB0] at HB2; exact (HB2.out.trans (hB4.mono (by omega)))⟩
          · obtain rfl : i = sn := by omega
            have hT : r = true := HR.out.2 ⟨hs, h0, h64, hroom.out⟩
            subst hT
            go_wp2
            go_ret
            exact ⟨rfl, by rw [hB0] at HB2; exact (HB2.out.trans (hbr.mono (by omega)))⟩
      · have hF : r = false := by
          cases r with
          | false => rfl
          | true => exact absurd (hr.1 rfl) (by rintro ⟨q0, q1, q2, q3⟩; first | exact hs q0 | exact q1 h0 | exact h64 q2)
        subst hF
        clear hr
        have h64' : (64 : Int) < (sn : Int) := by omega
        have h0' : ((sn : Int) == 0) = false := beq_eq_false_iff_ne.2 (by omega)
        go_enter Try.func18, Try.ntmps18
        go_wp2_with fail
        refine (hsz _).mono ?_; rintro e W1 ⟨rfl, B1⟩
        have M1 := (MapAt.new w W D H (.slice mp mn mc) (.slice sp sn sc) 25).keep B1
        have B1' : Below w.heap.size w W1 := ((Below.refl _ _).alloc (Nat.le_refl _) _).trans (B1.mono (by simp))
        obtain ⟨ml, m0, m1, m2, m3, m4⟩ := M1
        go_wp2
        go_ret
        exact ⟨rfl, B1'⟩
  · rw [decide_eq_false hs] at hsz
    have hF : r = false := by
      cases r with
      | false => rfl
      | true => exact absurd (hr.1 rfl) (by rintro ⟨q0, q1, q2, q3⟩; first | exact hs q0 | exact q1 h0 | exact h64 q2)
    subst hF
    clear hr
    go_enter Try.func18, Try.ntmps18
    go_wp2_with fail
    refine (hsz _).mono ?_; rintro e W1 ⟨rfl, B1⟩
    have M1 := (MapAt.new w W D H (.slice mp mn mc) (.slice sp sn sc) 25).keep B1
    have B1' : Below w.heap.size w W1 := ((Below.refl _ _).alloc (Nat.le_refl _) _).trans (B1.mono (by simp))
    obtain ⟨ml, m0, m1, m2, m3, m4⟩ := M1
    go_wp2
    go_ret
    exact ⟨rfl, B1'⟩
end Go.Proofs.Ythcmcjklhcfenaa
