/- Layer 9 (grid): the contract of Clear. -/
import Derived.Test.YthcmcjklhcfenaaGrB
namespace Go.Proofs.Ythcmcjklhcfenaa
open Go.RowKit
set_option linter.unusedVariables false
set_option linter.unusedSimpArgs false
attribute [local go_sem ↓] Go.wp_at_zero Go.wp_at_succ

/-- A map in a box. -/
structure MapAt (w : World) (b : Nat) (W D H : Int) (x y : Value) : Prop where
  lt : b < w.heap.size
  c0 : w.cell? ⟨b, 0, none⟩ = some (.int .i64 W)
  c1 : w.cell? ⟨b, 1, none⟩ = some (.int .i64 D)
  c2 : w.cell? ⟨b, 2, none⟩ = some (.int .i64 H)
  c3 : w.cell? ⟨b, 3, none⟩ = some x
  c4 : w.cell? ⟨b, 4, none⟩ = some y
theorem MapAt.keep {w w' : World} {b : Nat} {W D H : Int} {x y : Value} (h : MapAt w b W D H x y) (hb : Below w.heap.size w w') : MapAt w' b W D H x y :=
  ⟨Nat.lt_of_lt_of_le h.lt hb.size, keepCell hb h.lt h.c0, keepCell hb h.lt h.c1, keepCell hb h.lt h.c2, keepCell hb h.lt h.c3, keepCell hb h.lt h.c4⟩
theorem MapAt.alloc {w : World} {b : Nat} {W D H : Int} {x y : Value} (h : MapAt w b W D H x y) (o : Obj) : MapAt (w.alloc o) b W D H x y := h.keep ((Below.refl _ _).alloc (Nat.le_refl _) _)
theorem MapAt.new (w : World) (W D H : Int) (x y : Value) (t : TypeId) : MapAt (w.alloc (.cells #[.int .i64 W, .int .i64 D, .int .i64 H, x, y] t)) w.heap.size W D H x y :=
  ⟨by simp, by simp [go_sem], by simp [go_sem], by simp [go_sem], by simp [go_sem], by simp [go_sem]⟩

/-- No cell of these is solid. -/
def Mp.Cl (M : Mp) (x0 x1 y0 y1 z0 z1 : Int) : Prop := ∀ x y z : Int, x0 ≤ x → x < x1 → y0 ≤ y → y < y1 → z0 ≤ z → z < z1 → M.Free x y z
def Mp.Clear (M : Mp) (a b : V3) : Prop := a.x < b.x → a.y < b.y → a.z < b.z → M.Cl (a.x / 65536) ((b.x - 1) / 65536 + 1) (a.y / 65536) ((b.y - 1) / 65536 + 1) (a.z / 65536) ((b.z - 1) / 65536 + 1)
theorem Mp.Cl.none {M : Mp} {x0 x1 y0 y1 z0 z1 : Int} (h : x1 ≤ x0 ∨ y1 ≤ y0 ∨ z1 ≤ z0) : M.Cl x0 x1 y0 y1 z0 z1 := fun x y z _ _ _ _ _ _ => by omega
theorem Mp.Cl.x {M : Mp} {x0 x1 y z : Int} (h : M.Cl x0 x1 y (y + 1) z (z + 1)) (k : M.Free x1 y z) : M.Cl x0 (x1 + 1) y (y + 1) z (z + 1) := fun x' y' z' a b c d e f => by
  have hy : y' = y := by omega
  have hz : z' = z := by omega
  subst hy; subst hz
  by_cases hx : x' = x1
  · rw [hx]; exact k
  · exact h _ _ _ a (by omega) c d e f
theorem Mp.Cl.y {M : Mp} {x0 x1 y0 y1 z : Int} (h : M.Cl x0 x1 y0 y1 z (z + 1)) (k : M.Cl x0 x1 y1 (y1 + 1) z (z + 1)) : M.Cl x0 x1 y0 (y1 + 1) z (z + 1) := fun x' y' z' a b c d e f => by
  by_cases hy : y' < y1
  · exact h _ _ _ a b c hy e f
  · exact k _ _ _ a b (by omega) d e f
theorem Mp.Cl.z {M : Mp} {x0 x1 y0 y1 z0 z1 : Int} (h : M.Cl x0 x1 y0 y1 z0 z1) (k : M.Cl x0 x1 y0 y1 z1 (z1 + 1)) : M.Cl x0 x1 y0 y1 z0 (z1 + 1) := fun x' y' z' a b c d e f => by
  by_cases hz : z' < z1
  · exact h _ _ _ a b c d e hz
  · exact k _ _ _ a b c d (by omega) f

set_option maxHeartbeats 2000000 in
theorem gridClearIn (W D H : Int) (mp : Option Addr) (mn mc : Nat) (mf : Nat → Bool) (sp : Option Addr) (sn sc : Nat) (a1 a2 a3 : Int) (b1 b2 b3 : Int) (ha1 : I64 a1) (ha2 : I64 a2) (ha3 : I64 a3) (hb1 : I64 b1) (hb2 : I64 b2) (hb3 : I64 b3) (h1 : a1 < b1) (h2 : a2 < b2) (h3 : a3 < b3) (w : World) (hm : Arg w mp mn mc fun i => .bool (mf i)) (s : Bool)
    (hs : s = true ↔ (mpOf W D H mn mf).Cl (a1 / 65536) ((b1 - 1) / 65536 + 1) (a2 / 65536) ((b2 - 1) / 65536 + 1) (a3 / 65536) ((b3 - 1) / 65536 + 1)) :
    Calls Try.prog 27 #[.agg #[.int .i64 W, .int .i64 D, .int .i64 H, .slice mp mn mc, .slice sp sn sc], .agg #[.int .i64 a1, .int .i64 a2, .int .i64 a3], .agg #[.int .i64 b1, .int .i64 b2, .int .i64 b3]] w fun e w' => e = .returned (.bool s) ∧ Below w.heap.size w w' := by
  have HS := hid hs
  clear hs
  have i1 := ha1.lo; have i2 := ha1.hi; have i3 := ha2.lo; have i4 := ha2.hi; have i5 := ha3.lo; have i6 := ha3.hi
  have j1 := hb1.lo; have j2 := hb1.hi; have j3 := hb2.lo; have j4 := hb2.hi; have j5 := hb3.lo; have j6 := hb3.hi
  go_enter Try.func27, Try.ntmps27
  go_wp2_with fail
  refine (gridAt a1 a2 a3 ha1 ha2 ha3 _).mono ?_; rintro e W1 ⟨rfl, B1⟩
  have M1 := ((((MapAt.new w W D H (.slice mp mn mc) (.slice sp sn sc) 25)).alloc (.cells #[.int .i64 a1, .int .i64 a2, .int .i64 a3] 27)).alloc (.cells #[.int .i64 b1, .int .i64 b2, .int .i64 b3] 27)).keep B1
  have d0 : W1.cell? ⟨w.heap.size + 1 + 1, 0, none⟩ = some (.int .i64 b1) := keepCell B1 (by simp) (by simp [go_sem])
  have d1 : W1.cell? ⟨w.heap.size + 1 + 1, 1, none⟩ = some (.int .i64 b2) := keepCell B1 (by simp) (by simp [go_sem])
  have d2 : W1.cell? ⟨w.heap.size + 1 + 1, 2, none⟩ = some (.int .i64 b3) := keepCell B1 (by simp) (by simp [go_sem])
  have B1' : Below w.heap.size w W1 := ((((Below.refl _ _).alloc (Nat.le_refl _) _).alloc (by simp) _).alloc (by simp; omega) _).trans (B1.mono (by simp; omega))
  go_wp2_with fail
  refine (gridAt (b1 - 1) (b2 - 1) (b3 - 1) ⟨by omega, by omega⟩ ⟨by omega, by omega⟩ ⟨by omega, by omega⟩ _).mono ?_; rintro e W2 ⟨rfl, B2⟩
  have M2 := M1.keep B2
  have B2' := btrans B1' B2
  have A2 := hid (hm.keep B2')
  clear d0 d1 d2 B1 B2 B1' M1 hm
  obtain ⟨x0, hx0⟩ : ∃ x, a1 / 65536 = x := ⟨_, rfl⟩
  obtain ⟨y0, hy0⟩ : ∃ x, a2 / 65536 = x := ⟨_, rfl⟩
  obtain ⟨z0, hz0⟩ : ∃ x, a3 / 65536 = x := ⟨_, rfl⟩
  obtain ⟨x1, hx1⟩ : ∃ x, (b1 - 1) / 65536 = x := ⟨_, rfl⟩
  obtain ⟨y1, hy1⟩ : ∃ x, (b2 - 1) / 65536 = x := ⟨_, rfl⟩
  obtain ⟨z1, hz1⟩ : ∃ x, (b3 - 1) / 65536 = x := ⟨_, rfl⟩
  have k1 : -281474976710656 ≤ x0 ∧ x0 ≤ x1 ∧ x1 ≤ 281474976710656 := by omega
  have k2 : -281474976710656 ≤ y0 ∧ y0 ≤ y1 ∧ y1 ≤ 281474976710656 := by omega
  have k3 : -281474976710656 ≤ z0 ∧ z0 ≤ z1 ∧ z1 ≤ 281474976710656 := by omega
  rw [hx0, hy0, hz0, hx1, hy1, hz1] at HS
  rw [hx0, hy0, hz0, hx1, hy1, hz1]
  clear hx0 hy0 hz0 hx1 hy1 hz1
  obtain ⟨k10, k11, k12⟩ := k1; obtain ⟨k20, k21, k22⟩ := k2; obtain ⟨k30, k31, k32⟩ := k3
  have HM := hid M2
  have HB := hid B2'
  clear M2 B2'
  go_wp2
  go_loopw [13] (fun v wr => ∃ z : Int, v = .int .i64 z ∧ z0 ≤ z ∧ z ≤ z1 + 1 ∧ Hid ((mpOf W D H mn mf).Cl x0 (x1 + 1) y0 (y1 + 1) z0 z) ∧ Below W2.heap.size W2 wr) (fun v _ => (z1 + 1 - intOf v).toNat)
  case atStart => exact ⟨z0, rfl, Int.le_refl _, by omega, hid (Mp.Cl.none (by omega)), Below.refl _ _⟩
  case round =>
    obtain ⟨z, rfl, hz0, hz1, hcl, hB⟩ := hrel
    by_cases hz : z ≤ z1
    · go_wp2
      go_loopw [14] (fun v wr => ∃ y : Int, v = .int .i64 y ∧ y0 ≤ y ∧ y ≤ y1 + 1 ∧ Hid ((mpOf W D H mn mf).Cl x0 (x1 + 1) y0 y z (z + 1)) ∧ Below W2.heap.size W2 wr) (fun v _ => (y1 + 1 - intOf v).toNat)
      case atStart => exact ⟨y0, rfl, Int.le_refl _, by omega, hid (Mp.Cl.none (by omega)), hB⟩
      case round =>
        clear hB
        obtain ⟨y, rfl, hy0, hy1, hcly, hB⟩ := hrel
        by_cases hy : y ≤ y1
        · go_wp2
          go_loopw [15] (fun v wr => ∃ x : Int, v = .int .i64 x ∧ x0 ≤ x ∧ x ≤ x1 + 1 ∧ Hid ((mpOf W D H mn mf).Cl x0 x y (y + 1) z (z + 1)) ∧ Below W2.heap.size W2 wr) (fun v _ => (x1 + 1 - intOf v).toNat)
          case atStart => exact ⟨x0, rfl, Int.le_refl _, by omega, hid (Mp.Cl.none (by omega)), hB⟩
          case round =>
            clear hB
            obtain ⟨x, rfl, hx0, hx1, hclx, hB⟩ := hrel
            by_cases hx : x ≤ x1
            · obtain ⟨ml, m0, m1, m2, m3, m4⟩ := HM.out.keep hB
              have hA := hid (A2.out.keep hB)
              go_wp2_with fail
              refine (gridSolid W D H mp mn mc mf sp sn sc x y z _ hA.out).mono ?_; rintro e W4 ⟨rfl, B4⟩
              have hB4 := btrans hB B4
              clear hB B4 hA m0 m1 m2 m3 m4 ml
              cases hsol : (mpOf W D H mn mf).solid x y z with
              | true =>
                have hf : s = false := by
                  cases s with
                  | false => rfl
                  | true => exact absurd (HS.out.1 rfl x y z hx0 (by omega) hy0 (by omega) hz0 (by omega)) (Mp.solid_t.1 hsol)
                clear hsol
                subst hf
                have HB4 := hid hB4
                clear hB4
                go_wp2
                go_ret
                exact ⟨rfl, btrans HB.out HB4.out⟩
              | false =>
                have hk := hid (hclx.out.x (Mp.solid_f.1 hsol))
                clear hsol
                go_wp2
                exact ⟨⟨x + 1, by go_num, by omega, by omega, hk, hB4⟩, by simp [intOf]; omega⟩
            · obtain rfl : x = x1 + 1 := by omega
              have hk := hid (hcly.out.y hclx.out)
              go_wp2
              exact ⟨⟨y + 1, by go_num, by omega, by omega, hk, hB⟩, by simp [intOf]; omega⟩
        · obtain rfl : y = y1 + 1 := by omega
          have hk := hid (hcl.out.z hcly.out)
          go_wp2
          exact ⟨⟨z + 1, by go_num, by omega, by omega, hk, hB⟩, by simp [intOf]; omega⟩
    · obtain rfl : z = z1 + 1 := by omega
      have hf : s = true := HS.out.2 hcl.out
      subst hf
      go_wp2
      go_ret
      exact ⟨rfl, btrans HB.out hB⟩
end Go.Proofs.Ythcmcjklhcfenaa
