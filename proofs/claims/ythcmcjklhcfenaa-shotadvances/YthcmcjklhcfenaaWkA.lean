/- Layer 11 (walk): boxes of a player, and of a command. -/
import Derived.Test.YthcmcjklhcfenaaWkM
import Derived.Test.YthcmcjklhcfenaaTrD
import Derived.Test.YthcmcjklhcfenaaTwE
import Derived.Test.YthcmcjklhcfenaaTrE
namespace Go.Proofs.Ythcmcjklhcfenaa
open Go.RowKit
set_option linter.unusedVariables false
set_option linter.unusedSimpArgs false
attribute [local go_sem ↓] Go.wp_at_zero Go.wp_at_succ

theorem O5.fr {w V : World} {b : Nat} {x0 x1 x2 x3 x4 : Value} {S : Nat → Prop} (h : O5 w b x0 x1 x2 x3 x4) (hf : Fr S w V) (hs : ¬ S b) : O5 V b x0 x1 x2 x3 x4 := ⟨by rw [hf.block b h.lt hs]; exact h.obj⟩
theorem O3.fr {w V : World} {b : Nat} {t : TypeId} {x y z : Value} {S : Nat → Prop} (h : O3 w b t x y z) (hf : Fr S w V) (hs : ¬ S b) : O3 V b t x y z := ⟨by rw [hf.block b h.lt hs]; exact h.obj⟩
theorem Bs.fr {w V : World} {g N cap : Nat} {f : Nat → Bool} {S : Nat → Prop} (h : Bs w g N cap f) (hf : Fr S w V) (hs : ¬ S g) : Bs V g N cap f := by
  obtain ⟨cur, hg, hc⟩ := h.row
  exact ⟨h.le, h.most, cur, by rw [hf.block g h.lt hs]; exact hg, hc⟩
theorem below_fr {B : Nat} {w V U : World} {S : Nat → Prop} (h : Below B w V) (hf : Fr S V U) (hb : B ≤ w.heap.size) (hs : ∀ k, S k → B ≤ k) : Below B w U := h.trans (hf.below (Nat.le_trans hb h.size) hs)
theorem PlAt.allFr (w : World) (b : Nat) (q : Pl) : Fr (fun k => k = b) w (((((((((((((((w.setCell ⟨b, 0, none⟩ (.int .i64 q.id)).setCell ⟨b, 1, none⟩ (.int .i64 q.px)).setCell ⟨b, 2, none⟩ (.int .i64 q.py)).setCell ⟨b, 3, none⟩ (.int .i64 q.pz)).setCell ⟨b, 4, none⟩ (.int .i64 q.vx)).setCell ⟨b, 5, none⟩ (.int .i64 q.vy)).setCell ⟨b, 6, none⟩ (.int .i64 q.vz)).setCell ⟨b, 7, none⟩ (.bool q.gr)).setCell ⟨b, 8, none⟩ (.int .i64 q.he)).setCell ⟨b, 9, none⟩ (.int .i64 q.ar)).setCell ⟨b, 10, none⟩ (.int .i64 q.sc)).setCell ⟨b, 11, none⟩ (.int .i64 q.a0)).setCell ⟨b, 12, none⟩ (.int .i64 q.a1)).setCell ⟨b, 13, none⟩ (.int .i64 q.wa)).setCell ⟨b, 14, none⟩ (.int .i64 q.de)) := (((((((((((((((Fr.refl (fun k => k = b) w).setCell (p := ⟨b, 0, none⟩) rfl _).setCell (p := ⟨b, 1, none⟩) rfl _).setCell (p := ⟨b, 2, none⟩) rfl _).setCell (p := ⟨b, 3, none⟩) rfl _).setCell (p := ⟨b, 4, none⟩) rfl _).setCell (p := ⟨b, 5, none⟩) rfl _).setCell (p := ⟨b, 6, none⟩) rfl _).setCell (p := ⟨b, 7, none⟩) rfl _).setCell (p := ⟨b, 8, none⟩) rfl _).setCell (p := ⟨b, 9, none⟩) rfl _).setCell (p := ⟨b, 10, none⟩) rfl _).setCell (p := ⟨b, 11, none⟩) rfl _).setCell (p := ⟨b, 12, none⟩) rfl _).setCell (p := ⟨b, 13, none⟩) rfl _).setCell (p := ⟨b, 14, none⟩) rfl _
theorem CmAt.allFr (w : World) (b : Nat) (q : Cm) : Fr (fun k => k = b) w (((((w.setCell ⟨b, 0, none⟩ (.int .u16 q.sq)).setCell ⟨b, 1, none⟩ (.int .u8 q.bt)).setCell ⟨b, 2, none⟩ (.int .i8 q.dx)).setCell ⟨b, 3, none⟩ (.int .i8 q.dy)).setCell ⟨b, 4, none⟩ (.int .i64 q.tk)) := (((((Fr.refl (fun k => k = b) w).setCell (p := ⟨b, 0, none⟩) rfl _).setCell (p := ⟨b, 1, none⟩) rfl _).setCell (p := ⟨b, 2, none⟩) rfl _).setCell (p := ⟨b, 3, none⟩) rfl _).setCell (p := ⟨b, 4, none⟩) rfl _
theorem fr1 (w : World) (b o : Nat) (u : Value) : Fr (fun k => k = b) w (w.setCell ⟨b, o, none⟩ u) := (Fr.refl (fun k => k = b) w).setCell (p := ⟨b, o, none⟩) rfl _
theorem fr3 (w : World) (b o1 o2 o3 : Nat) (x y z : Value) : Fr (fun k => k = b) w (((w.setCell ⟨b, o1, none⟩ x).setCell ⟨b, o2, none⟩ y).setCell ⟨b, o3, none⟩ z) := (((Fr.refl (fun k => k = b) w).setCell (p := ⟨b, o1, none⟩) rfl _).setCell (p := ⟨b, o2, none⟩) rfl _).setCell (p := ⟨b, o3, none⟩) rfl _
def noPl : Pl := ⟨0, 0, 0, 0, 0, 0, 0, false, 0, 0, 0, 0, 0, 0, 0⟩
theorem wrap8 {n : Nat} (h : n < 256) : IntKind.u8.wrap (n : Int) = n := by
  unfold IntKind.wrap
  simp [IntKind.signed, IntKind.bits]; omega
theorem bits8 (a b : Nat) : bits .and .u8 (a : Int) (b : Int) = (((a % 2 ^ 8) &&& (b % 2 ^ 8) : Nat) : Int) := by
  have e : bits .and .u8 (a : Int) (b : Int) = IntKind.u8.wrap (((BitVec.ofInt 8 (a : Int)) &&& (BitVec.ofInt 8 (b : Int))).toNat : Int) := rfl
  rw [e, BitVec.ofInt_natCast, BitVec.ofInt_natCast, BitVec.toNat_and, BitVec.toNat_ofNat, BitVec.toNat_ofNat]
  exact wrap8 (Nat.lt_of_le_of_lt Nat.and_le_left (Nat.mod_lt _ (by decide)))
theorem and_prs {b : Int} (k : Nat) (h0 : 0 ≤ b) (h1 : b < 256) (hk : k < 256) : ∃ n : Int, bits .and .u8 b (k : Int) = n ∧ (n != 0) = prs b (k : Int) ∧ (n == 0) = !prs b (k : Int) := by
  obtain ⟨n, rfl⟩ := Int.eq_ofNat_of_zero_le h0
  have hn : n < 256 := by omega
  refine ⟨((n &&& k : Nat) : Int), ?_, ?_⟩
  · rw [bits8, Nat.mod_eq_of_lt (show n < 2 ^ 8 from hn), Nat.mod_eq_of_lt (show k < 2 ^ 8 from hk)]
  · unfold prs
    have e : (((n : Int).toNat &&& (k : Int).toNat)) = (n &&& k) := rfl
    rw [e]
    by_cases h : n &&& k = 0
    · rw [h]; decide
    · have h' : ((n &&& k : Nat) : Int) ≠ 0 := by omega
      simp [h, h']
theorem min_is' (a b : Int) : ∀ ts t W, (Builtin.min_ ts t #[.int .i64 a, .int .i64 b]).run Try.prog W = .ok (.int .i64 (min a b)) W := by
  intro ts t W
  have e : (if b < a then b else a) = min a b := by omega
  simp [Builtin.min_, Builtin.min2, e]
theorem max_is' (a b : Int) : ∀ ts t W, (Builtin.max_ ts t #[.int .i64 a, .int .i64 b]).run Try.prog W = .ok (.int .i64 (max a b)) W := by
  intro ts t W
  have e : (if a < b then b else a) = max a b := by omega
  simp [Builtin.max_, Builtin.max2, e]
end Go.Proofs.Ythcmcjklhcfenaa
