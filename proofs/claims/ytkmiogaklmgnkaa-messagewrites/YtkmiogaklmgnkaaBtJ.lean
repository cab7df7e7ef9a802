/- Layer 3 (bits): bytes that came in; Get of whatever. -/
import Derived.Test.YtkmiogaklmgnkaaBtI
namespace Go.Proofs.Ytkmiogaklmgnkaa
open Go.RowKit Go.Shelf
set_option linter.unusedVariables false

theorem u8_nat {n : Int} (h : (Lit.int .u8 n).wf = true) : ∃ q : Nat, n = (q : Int) ∧ q < 256 := by
  have h1 : 0 ≤ n ∧ n < 256 := by
    simp [Lit.wf, IntKind.min, IntKind.max, IntKind.signed, IntKind.bits] at h
    omega
  exact ⟨n.toNat, by omega, by omega⟩
/-- The first bytes of a slice that came in. -/
theorem Arg.bytes {w : World} {p : Option Addr} {n cap : Nat} {z : Nat → Int} (h : Arg w p n cap fun i => .int .u8 (z i)) (hz : ∀ i, (Lit.int .u8 (z i)).wf = true) {k : Nat} (hk : k ≤ n) :
    ∃ ys : List Nat, ys.length = k ∧ (∀ y ∈ ys, y < 256) ∧ Arg w p ys.length cap fun i => .int .u8 ((ys.getD i 0 : Nat) : Int) := by
  have hz2 : ∀ i, z i = ((z i).toNat : Int) ∧ (z i).toNat < 256 := fun i => by
    obtain ⟨q, h1, h2⟩ := u8_nat (hz i); rw [h1]; omega
  refine ⟨(List.range k).map fun i => (z i).toNat, by simp, ?_, ?_⟩
  · intro y hy
    obtain ⟨i, _, rfl⟩ := List.mem_map.1 hy
    exact (hz2 i).2
  · have hl : ((List.range k).map fun i => (z i).toNat).length = k := by simp
    rw [hl]
    refine ⟨Nat.le_trans hk h.le, h.most, ?_⟩
    rcases h.cells with h0 | ⟨b, o, hp, hb, hc⟩
    · exact .inl (by omega)
    · refine .inr ⟨b, o, hp, hb, fun i hi => ?_⟩
      rw [hc i (by omega), (hz2 i).1]
      simp [hi]
/-- What Get tells, and leaves. -/
def gotV (rs : List Bool) (c : Nat) : Nat := if c ≤ rs.length then val (rs.take c) else 0
def gotS (rs : List Bool) (c : Nat) : Int := if c ≤ rs.length then sgn (rs.take c) else 0
def gotB (rs : List Bool) (c : Nat) : Bool := decide (c ≤ rs.length)
def gotR (rs : List Bool) (c : Nat) : List Bool := if c ≤ rs.length then rs.drop c else []
theorem getR (S : Nat → Prop) (b : Nat) (rs : List Bool) (x : Int) (w : World) (h : RdAt w S b rs) :
    Calls Try.prog 56 #[.pointer (some ⟨b, 0, none⟩), .int .i64 x] w fun e w' => e = .returned (.tuple #[.int .u64 (gotV rs (cnt x) : Nat), .bool (gotB rs (cnt x))]) ∧ RdAt w' S b (gotR rs (cnt x)) ∧ Fr S w w' := by
  unfold gotV gotB gotR
  by_cases hc : cnt x ≤ rs.length
  · rw [if_pos hc, if_pos hc, decide_eq_true hc]; exact get_yes S b rs x w h hc
  · rw [if_neg hc, if_neg hc, decide_eq_false hc]; exact get_no S b rs x w h (by omega)
theorem signR (S : Nat → Prop) (b : Nat) (rs : List Bool) (x : Int) (w : World) (h : RdAt w S b rs) :
    Calls Try.prog 97 #[.pointer (some ⟨b, 0, none⟩), .int .i64 x] w fun e w' => e = .returned (.tuple #[.int .i64 (gotS rs (cnt x)), .bool (gotB rs (cnt x))]) ∧ RdAt w' S b (gotR rs (cnt x)) ∧ Fr S w w' := by
  unfold gotS gotB gotR
  by_cases hc : cnt x ≤ rs.length
  · rw [if_pos hc, if_pos hc, decide_eq_true hc]; exact sign_yes S b rs x w h hc
  · rw [if_neg hc, if_neg hc, decide_eq_false hc]; exact sign_no S b rs x w h (by omega)
/-- Three readers apart. -/
structure Three (B : Nat) (w W : World) (S1 S2 S3 : Nat → Prop) : Prop where
  bel : Below B w W
  le : B ≤ W.heap.size
  d12 : ∀ k, S1 k → ¬ S2 k
  d13 : ∀ k, S1 k → ¬ S3 k
  d23 : ∀ k, S2 k → ¬ S3 k
  f1 : From B S1
  f2 : From B S2
  f3 : From B S3
theorem Three.rot {B : Nat} {w W : World} {S1 S2 S3 : Nat → Prop} (h : Three B w W S1 S2 S3) : Three B w W S2 S3 S1 :=
  ⟨h.bel, h.le, h.d23, fun k a b => h.d12 k b a, fun k a b => h.d13 k b a, h.f2, h.f3, h.f1⟩
theorem Three.step {B : Nat} {w W W' : World} {S1 S2 S3 : Nat → Prop} (h : Three B w W S1 S2 S3) (hf : Fr S1 W W') : Three B w W' S1 S2 S3 :=
  ⟨h.bel.trans (hf.below h.le h.f1.le), Nat.le_trans h.le hf.size, h.d12, h.d13, h.d23, h.f1, h.f2, h.f3⟩
theorem Three.quiet {B : Nat} {w W W' : World} {S1 S2 S3 : Nat → Prop} (h : Three B w W S1 S2 S3) (hb : Below W.heap.size W W') : Three B w W' S1 S2 S3 :=
  ⟨h.bel.trans (hb.mono h.le), Nat.le_trans h.le hb.size, h.d12, h.d13, h.d23, h.f1, h.f2, h.f3⟩
theorem b15 {x : Int} (h : (Lit.int .u8 x).wf = true) : ∃ q : Nat, q ≤ 15 ∧ bits .and .u8 x 15 = (q : Int) := by
  obtain ⟨n, rfl, hn⟩ := u8_nat h
  rw [show (15 : Int) = ((15 : Nat) : Int) from rfl, bits_and_u8]
  exact ⟨_, Nat.le_trans Nat.and_le_right (by decide), rfl⟩
end Go.Proofs.Ytkmiogaklmgnkaa
