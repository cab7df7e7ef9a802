/- Layer 3 (bits): strings of bytes; regions that draw, by hand; masks. -/
import Derived.Test.YtkmiogaklmgnkaaBtH0
import Derived.Laws.BytesArg
namespace Go.Proofs.Ytkmiogaklmgnkaa
open Go.RowKit Go.Shelf
set_option linter.unusedVariables false

/-- Bytes as a string. -/
def str (ys : List Nat) : ByteArray := strOfNums (ys.map fun (y : Nat) => (y : Int))
theorem str_size (ys : List Nat) : (str ys).size = ys.length := by unfold str; rw [strOfNums_size, List.length_map]
theorem conv_arg {w : World} {p : Option Addr} {cap : Nat} {ys : List Nat} (h : Arg w p ys.length cap fun i => .int .u8 ((ys.getD i 0 : Nat) : Int)) : (convert 25 9 (.slice p ys.length cap)).run Try.prog w = .ok (.string (str ys)) w := by
  rcases h.cells with h0 | ⟨b, o, rfl, _, hc⟩
  · have h1 : ys = [] := List.length_eq_zero_iff.1 h0
    subst h1
    show (convert 25 9 (.slice p 0 cap)).run Try.prog w = _
    rw [run_convert_bytes_string w 25 9 5 p 0 cap Try.underlying25 Try.underlying5 Try.underlying9]
    cases p <;> simp [Conv.bytesToString, str, strOfNums] <;> rfl
  · refine run_convert_bytes_arg w 25 5 Try.underlying25 Try.underlying5 b o ys.length cap (ys.map fun (y : Nat) => (y : Int)) (by simp) (fun i hi => ?_) _ Try.underlying9
    rw [hc i hi]
    simp [hi]
theorem conv_row {w : World} {B : Nat} {v : Value} {ys : List Nat} (h : Row w B v ys) : (convert 25 9 v).run Try.prog w = .ok (.string (str ys)) w := by
  obtain ⟨p, cap, rfl, ha⟩ := h.arg; exact conv_arg ha
theorem region_held {P : Program} {id : Nat} {Q : Exit → Act → World → Prop} {a : Act} {w : World} {l : List Oper} (S : World → Prop) (k : Nat) (hk : l.toArray.size = k) (hm : P.follows .mixedOrders = true) (hS : S w.drew)
    (h : S w.drew → wpAnyH P .any l.toArray (Only Q) S k (Array.replicate k false) a w.drew) : (Code.region id l.toArray true).wp P Q a w :=
  Code.wp_mono Only.imp (wp_region_held hm (by subst hk; exact h hS))
theorem mask {m x : Int} {k : Nat} (hm : m = ((2 ^ k - 1 : Nat) : Int)) (hk : k ≤ 62) : ∃ q : Nat, q < 2 ^ k ∧ bits .and .i64 x m = (q : Int) := by
  have hlt : 2 ^ k ≤ 2 ^ 62 := Nat.pow_le_pow_right (by decide) hk
  have e : bits .and .i64 x m = IntKind.i64.wrap (((BitVec.ofInt 64 x) &&& (BitVec.ofInt 64 m)).toNat : Int) := rfl
  have hpos : 0 < 2 ^ k := Nat.pow_pos (by decide)
  have hle : ((BitVec.ofInt 64 x) &&& (BitVec.ofInt 64 m)).toNat ≤ 2 ^ k - 1 := by
    rw [BitVec.toNat_and, hm, BitVec.ofInt_natCast, BitVec.toNat_ofNat, Nat.mod_eq_of_lt (by omega)]
    exact Nat.and_le_right
  refine ⟨((BitVec.ofInt 64 x) &&& (BitVec.ofInt 64 m)).toNat, by omega, ?_⟩
  rw [e]
  exact wrap_i64 (by omega) (by omega)
theorem u64_nat {n : Int} (h : (Lit.int .u64 n).wf = true) : ∃ q : Nat, n = (q : Int) ∧ q < 2 ^ 64 := by
  have h1 : 0 ≤ n ∧ n < 2 ^ 64 := by
    simp [Lit.wf, IntKind.min, IntKind.max, IntKind.signed, IntKind.bits] at h
    omega
  exact ⟨n.toNat, by omega, by omega⟩
/-- Two objects apart, both made since B. -/
structure Sh (B : Nat) (w W : World) (S1 S2 : Nat → Prop) : Prop where
  below : Below B w W
  le : B ≤ W.heap.size
  d : Dj S1 S2
  f1 : From B S1
  f2 : From B S2
theorem Sh.first {B : Nat} {w W W' : World} {S1 S2 S1' : Nat → Prop} (h : Sh B w W S1 S2) (hf : Fr S1 W W') (hs : Sub W S1 S1') (hl : ∀ k, S2 k → k < W.heap.size) : Sh B w W' S1' S2 :=
  ⟨Below.fr h.below hf h.f1 h.le, Nat.le_trans h.le hf.size, h.d.step hs hl, h.f1.step hs h.le, h.f2⟩
theorem Sh.swap {B : Nat} {w W : World} {S1 S2 : Nat → Prop} (h : Sh B w W S1 S2) : Sh B w W S2 S1 := ⟨h.below, h.le, h.d.symm, h.f2, h.f1⟩
theorem Sh.quiet {B : Nat} {w W W' : World} {S1 S2 : Nat → Prop} (h : Sh B w W S1 S2) (hb : Below W.heap.size W W') : Sh B w W' S1 S2 :=
  ⟨h.below.trans (hb.mono h.le), Nat.le_trans h.le hb.size, h.d, h.f1, h.f2⟩
/-- Two writers apart. -/
def Two (B : Nat) (w W : World) (a b : Nat) (x y : List Bool) : Prop := ∃ SA SB, WrAt W SA a x ∧ WrAt W SB b y ∧ Sh B w W SA SB
theorem Two.swap {B : Nat} {w W : World} {a b : Nat} {x y : List Bool} (h : Two B w W a b x y) : Two B w W b a y x := by
  obtain ⟨SA, SB, h1, h2, h3⟩ := h; exact ⟨SB, SA, h2, h1, h3.swap⟩
theorem Two.below {B : Nat} {w W W' : World} {a b : Nat} {x y : List Bool} (h : Two B w W a b x y) (hb : Below W.heap.size W W') : Two B w W' a b x y := by
  obtain ⟨SA, SB, h1, h2, h3⟩ := h; exact ⟨SA, SB, h1.below hb, h2.below hb, h3.quiet hb⟩
theorem Two.bel {B : Nat} {w W : World} {a b : Nat} {x y : List Bool} (h : Two B w W a b x y) : Below B w W := by
  obtain ⟨SA, SB, h1, h2, h3⟩ := h; exact h3.below
theorem two_put {B : Nat} {w W : World} {a b : Nat} {x y : List Bool} (n : Nat) (i : Int) (h : Two B w W a b x y) (hl : x.length ≤ 700000) :
    Calls Try.prog 41 #[.pointer (some ⟨a, 0, none⟩), .int .u64 (n : Int), .int .i64 i] W fun e W' => e = .returned (.tuple #[]) ∧ Two B w W' a b (x ++ low n (cnt i)) y := by
  obtain ⟨SA, SB, h1, h2, h3⟩ := h
  refine (put SA a x n i W h1 hl).mono ?_
  rintro e W' ⟨rfl, S', h4, h5, h6⟩
  exact ⟨rfl, S', SB, h4, h2.keep h5 h3.d.symm.no, h3.first h5 h6 h2.lt⟩
theorem two_bytes {B : Nat} {w W : World} {a b : Nat} {x y : List Bool} (h : Two B w W a b x y) (hl : x.length ≤ 700000) :
    Calls Try.prog 26 #[.pointer (some ⟨a, 0, none⟩)] W fun e W' => (∃ v ys f, e = .returned v ∧ Row W' W.heap.size v ys ∧ Packs ys f x) ∧ Two B w W' a b x y ∧ Below W.heap.size W W' := by
  have h0 := h
  obtain ⟨SA, SB, h1, h2, h3⟩ := h
  refine (bytesW SA a x W h1 (by omega)).mono ?_
  rintro e W' ⟨h4, h5⟩
  exact ⟨h4, h0.below h5, h5⟩
end Go.Proofs.Ytkmiogaklmgnkaa
