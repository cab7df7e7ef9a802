/- Layer 9 (grid): the contracts of Clear and Right; rows of vectors that came in. -/
import Derived.Test.YtpghdfleffgilaaGrC
import Derived.Deep.SlicePairs
namespace Go.Proofs.Ytpghdfleffgilaa
open Go.ChangeShapes Go.WideShapes Go.ChangeAt Go.RowKit Go.Joins
set_option linter.unusedVariables false
set_option linter.unusedSimpArgs false
attribute [local go_sem ↓] Go.wp_at_zero Go.wp_at_succ

theorem gridClear (W D H : Int) (mp : Option Addr) (mn mc : Nat) (mf : Nat → Bool) (sp : Option Addr) (sn sc : Nat) (a1 a2 a3 : Int) (b1 b2 b3 : Int) (ha1 : I64 a1) (ha2 : I64 a2) (ha3 : I64 a3) (hb1 : I64 b1) (hb2 : I64 b2) (hb3 : I64 b3) (w : World) (hm : Arg w mp mn mc fun i => .bool (mf i)) (s : Bool) (hs : s = true ↔ (mpOf W D H mn mf).Clear ⟨a1, a2, a3⟩ ⟨b1, b2, b3⟩) :
    Calls Try.prog 23 #[.agg #[.int .i64 W, .int .i64 D, .int .i64 H, .slice mp mn mc, .slice sp sn sc], .agg #[.int .i64 a1, .int .i64 a2, .int .i64 a3], .agg #[.int .i64 b1, .int .i64 b2, .int .i64 b3]] w fun e w' => e = .returned (.bool s) ∧ Below w.heap.size w w' := by
  by_cases h1 : a1 < b1
  · by_cases h2 : a2 < b2
    · by_cases h3 : a3 < b3
      · exact gridClearIn W D H mp mn mc mf sp sn sc a1 a2 a3 b1 b2 b3 ha1 ha2 ha3 hb1 hb2 hb3 h1 h2 h3 w hm s ⟨fun e => hs.1 e h1 h2 h3, fun e => hs.2 fun _ _ _ => e⟩
      · obtain rfl : s = true := hs.2 fun _ _ k => absurd k h3
        clear hs
        go_enter Try.func23, Try.ntmps23
        go_wp2
        go_ret
        exact ⟨rfl, (((Below.refl _ _).alloc (Nat.le_refl _) _).alloc (by simp) _).alloc (by simp; omega) _⟩
    · obtain rfl : s = true := hs.2 fun _ k _ => absurd k h2
      clear hs
      go_enter Try.func23, Try.ntmps23
      go_wp2
      go_ret
      exact ⟨rfl, (((Below.refl _ _).alloc (Nat.le_refl _) _).alloc (by simp) _).alloc (by simp; omega) _⟩
  · obtain rfl : s = true := hs.2 fun k _ _ => absurd k h1
    clear hs
    go_enter Try.func23, Try.ntmps23
    go_wp2
    go_ret
    exact ⟨rfl, (((Below.refl _ _).alloc (Nat.le_refl _) _).alloc (by simp) _).alloc (by simp; omega) _⟩

/-- Vectors. -/
structure ArgW (w : World) (p : Option Addr) (n cap : Nat) (X Y Z : Nat → Int) : Prop where
  le : n ≤ cap
  most : cap ≤ maxLen
  cells : n = 0 ∨ ∃ b o, p = some ⟨b, o, none⟩ ∧ b < w.heap.size ∧ ∀ i, i < n → w.cell? ⟨b, o + i * 3, none⟩ = some (.int .i64 (X i)) ∧ w.cell? ⟨b, o + i * 3 + 1, none⟩ = some (.int .i64 (Y i)) ∧ w.cell? ⟨b, o + i * 3 + 2, none⟩ = some (.int .i64 (Z i))
theorem ArgW.keep {w w' : World} {p : Option Addr} {n cap : Nat} {X Y Z : Nat → Int} (h : ArgW w p n cap X Y Z) (hb : Below w.heap.size w w') : ArgW w' p n cap X Y Z := by
  refine ⟨h.le, h.most, ?_⟩
  rcases h.cells with h | ⟨b, o, rfl, hlt, hc⟩
  · exact .inl h
  · refine .inr ⟨b, o, rfl, Nat.lt_of_lt_of_le hlt hb.size, fun i hi => ?_⟩
    obtain ⟨h1, h2, h3⟩ := hc i hi
    exact ⟨(hb.cell (p := ⟨b, _, none⟩) hlt).trans h1, (hb.cell (p := ⟨b, _, none⟩) hlt).trans h2, (hb.cell (p := ⟨b, _, none⟩) hlt).trans h3⟩
theorem ArgW.cut {w : World} {p : Option Addr} {n cap m : Nat} {X Y Z : Nat → Int} (h : ArgW w p n cap X Y Z) (hm : m ≤ n) : ArgW w p m cap X Y Z := by
  refine ⟨Nat.le_trans hm h.le, h.most, ?_⟩
  rcases h.cells with h | ⟨b, o, hp, hb, hc⟩
  · exact .inl (by omega)
  · exact .inr ⟨b, o, hp, hb, fun i hi => hc i (by omega)⟩
theorem ArgW.at {w : World} {p : Option Addr} {n cap : Nat} {X Y Z : Nat → Int} (h : ArgW w p n cap X Y Z) {i : Nat} (hi : i < n) : ∃ b o, p = some ⟨b, o, none⟩ ∧ b < w.heap.size ∧ ∀ i, i < n → w.cell? ⟨b, o + i * 3, none⟩ = some (.int .i64 (X i)) ∧ w.cell? ⟨b, o + i * 3 + 1, none⟩ = some (.int .i64 (Y i)) ∧ w.cell? ⟨b, o + i * 3 + 2, none⟩ = some (.int .i64 (Z i)) := by
  rcases h.cells with h | h
  · omega
  · exact h
theorem Arg.cut {w : World} {p : Option Addr} {n cap m : Nat} {f : Nat → Value} (h : Arg w p n cap f) (hm : m ≤ n) : Arg w p m cap f := by
  refine ⟨Nat.le_trans hm h.le, h.most, ?_⟩
  rcases h.cells with h | ⟨b, o, hp, hb, hc⟩
  · exact .inl (by omega)
  · exact .inr ⟨b, o, hp, hb, fun i hi => hc i (by omega)⟩
theorem keepR {w2 V V1 : World} {B0 B1 B2 : Nat} {W D H x y z : Int} {mp : Option Addr} {mn mc : Nat} {sp : Option Addr} {sn sc : Nat} (h0 : B0 < B2) (h1 : B1 < B2) (hb : Below V.heap.size V V1) (h : B2 < V.heap.size ∧ V.cell? ⟨B0, 0, none⟩ = some (.int .i64 W) ∧ V.cell? ⟨B0, 1, none⟩ = some (.int .i64 D) ∧ V.cell? ⟨B0, 2, none⟩ = some (.int .i64 H) ∧ V.cell? ⟨B0, 3, none⟩ = some (.slice mp mn mc) ∧ V.cell? ⟨B0, 4, none⟩ = some (.slice sp sn sc) ∧ V.cell? ⟨B1, 0, none⟩ = some (.int .i64 26214) ∧ V.cell? ⟨B1, 1, none⟩ = some (.int .i64 26214) ∧ V.cell? ⟨B1, 2, none⟩ = some (.int .i64 58982) ∧ V.cell? ⟨B2, 0, none⟩ = some (.int .i64 x) ∧ V.cell? ⟨B2, 1, none⟩ = some (.int .i64 y) ∧ V.cell? ⟨B2, 2, none⟩ = some (.int .i64 z) ∧ Below w2.heap.size w2 V) : B2 < V1.heap.size ∧ V1.cell? ⟨B0, 0, none⟩ = some (.int .i64 W) ∧ V1.cell? ⟨B0, 1, none⟩ = some (.int .i64 D) ∧ V1.cell? ⟨B0, 2, none⟩ = some (.int .i64 H) ∧ V1.cell? ⟨B0, 3, none⟩ = some (.slice mp mn mc) ∧ V1.cell? ⟨B0, 4, none⟩ = some (.slice sp sn sc) ∧ V1.cell? ⟨B1, 0, none⟩ = some (.int .i64 26214) ∧ V1.cell? ⟨B1, 1, none⟩ = some (.int .i64 26214) ∧ V1.cell? ⟨B1, 2, none⟩ = some (.int .i64 58982) ∧ V1.cell? ⟨B2, 0, none⟩ = some (.int .i64 x) ∧ V1.cell? ⟨B2, 1, none⟩ = some (.int .i64 y) ∧ V1.cell? ⟨B2, 2, none⟩ = some (.int .i64 z) ∧ Below w2.heap.size w2 V1 := by
  obtain ⟨hs, m0, m1, m2, m3, m4, r0, r1, r2, a0, a1, a2, hB⟩ := h
  exact ⟨Nat.lt_of_lt_of_le hs hb.size, keepCell hb (by omega) m0, keepCell hb (by omega) m1, keepCell hb (by omega) m2, keepCell hb (by omega) m3, keepCell hb (by omega) m4, keepCell hb (by omega) r0, keepCell hb (by omega) r1, keepCell hb (by omega) r2, keepCell hb (by omega) a0, keepCell hb (by omega) a1, keepCell hb (by omega) a2, btrans hB hb⟩
/-- A player has room there. -/
def Mp.Room (M : Mp) (x y z : Int) : Prop := M.Clear ⟨sat (x - 26214), sat (y - 26214), sat (z - 58982)⟩ ⟨sat (x + 26214), sat (y + 26214), sat (z + 58982)⟩
def Mp.RightP (M : Mp) (n : Nat) (X Y Z : Nat → Int) : Prop := M.Sized ∧ n ≠ 0 ∧ n ≤ 64 ∧ ∀ i, i < n → M.Room (X i) (Y i) (Z i)

end Go.Proofs.Ytpghdfleffgilaa
