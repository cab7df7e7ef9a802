/- Layer 5 (message): a message through a way. -/
import Derived.Test.YtkmiogaklmgnkaaMsD
import Derived.Test.YtkmiogaklmgnkaaMsE
import Derived.Deep.WholeRow
import Derived.Deep.CutBlock
namespace Go.Proofs.Ytkmiogaklmgnkaa
open Go.RowKit Go.Shelf
set_option linter.unusedVariables false
set_option linter.unusedSimpArgs false
attribute [local go_sem ↓] Go.wp_at_zero Go.wp_at_succ

/-- A message's cells. -/
def msgC (m : Msg) (v : Value) : Array Value := #[.int .i64 m.kind, .int .u16 m.seq, .int .u16 m.cmd.seq, .int .u8 m.cmd.but, .int .i8 m.cmd.dx, .int .i8 m.cmd.dy, .int .i64 m.cmd.tk, .int .u16 m.prov, .int .i64 m.id, .int .i64 m.shot, .int .i64 m.dir.x, .int .i64 m.dir.y, .int .i64 m.dir.z, .int .i64 m.why,
  .int .i64 m.pos.x, .int .i64 m.pos.y, .int .i64 m.pos.z, .int .i64 m.vel.x, .int .i64 m.vel.y, .int .i64 m.vel.z, .int .u32 m.tick, .int .u32 m.base, v]
/-- Its numbers are of their types. -/
structure MOk (m : Msg) : Prop where
  seq : 0 ≤ m.seq ∧ m.seq ≤ 65535
  cseq : 0 ≤ m.cmd.seq ∧ m.cmd.seq ≤ 65535
  but : 0 ≤ m.cmd.but ∧ m.cmd.but ≤ 255
  dx : -128 ≤ m.cmd.dx ∧ m.cmd.dx ≤ 127
  dy : -128 ≤ m.cmd.dy ∧ m.cmd.dy ≤ 127
  prov : 0 ≤ m.prov ∧ m.prov ≤ 65535
  tick : 0 ≤ m.tick ∧ m.tick ≤ 4294967295
  base : 0 ≤ m.base ∧ m.base ≤ 4294967295
  byte : ∀ y ∈ m.bytes, y < 256
/-- Bytes come back, of their own. -/
theorem Gn.callR {σ : Type} {W : Way σ} {S X : Nat → Prop} {w w' : World} {s s' : σ} {F : FuncId} {args : Array Value} {bs : List Nat} {p : Option Addr} {n : Nat} (h : Gn W S w X s w')
    (hc : ∀ S1, W.At s S1 w' → (n ≠ 0 → ∀ k o, p = some ⟨k, o, none⟩ → ¬ S1 k) → Calls Try.prog F args w' fun e w'' => ∃ v, e = .returned v ∧ Row w'' w'.heap.size v bs ∧ ∃ S2, W.At s' S2 w'' ∧ Fr S1 w' w'' ∧ Sub w' S1 S2 ∧ ∀ k, v.ownBlock = some k → ¬ S2 k)
    (hp : ∀ k o, n ≠ 0 → p = some ⟨k, o, none⟩ → X k) :
    Calls Try.prog F args w' fun e w'' => ∃ v, e = .returned v ∧ Row w'' w'.heap.size v bs ∧ Gn W S w (fun k => X k ∨ v.ownBlock = some k) s' w'' ∧ (∀ k, X k → w''.heap[k]? = w'.heap[k]?) ∧ w'.heap.size ≤ w''.heap.size := by
  obtain ⟨S1, h1, h2, h3, h4⟩ := h
  refine (hc S1 h1 (fun h0 k o hk => (h4 k (hp k o h0 hk)).1)).mono ?_
  rintro e w'' ⟨v, hv, hrow, S2, g1, g2, g3, g4⟩
  refine ⟨v, hv, hrow, ⟨S2, g1, h2.trans g2 (fun k hk e => (h3 k e).resolve_right (by omega)), fun k hk => ?_, fun k hk => ?_⟩, fun k hk => g2.block k (h4 k hk).2 (h4 k hk).1, g2.size⟩
  · rcases g3 k hk with e | e
    · exact h3 k e
    · exact .inr (Nat.le_trans h2.size e)
  · rcases hk with hk | hk
    · refine ⟨fun e => ?_, Nat.lt_of_lt_of_le (h4 k hk).2 g2.size⟩
      rcases g3 k e with e | e
      · exact (h4 k hk).1 e
      · have := (h4 k hk).2; omega
    · exact ⟨g4 k hk, (hrow.ge hk).2⟩
/-- A box is filled. -/
theorem heap_setRow (w : World) (g : Nat) (cs : Array Value) {k : Nat} (h : k ≠ g) : (w.setRow g cs).heap[k]? = w.heap[k]? := by
  unfold World.setRow
  simp only [Array.getElem?_modify]
  rw [if_neg (fun e => h e.symm)]
theorem Bq.setRow {w : World} {B : Nat} {t : TypeId} {c : Array Value} (h : Bq w B t c) (cs : Array Value) : Bq (w.setRow B cs) B t cs := ⟨setRow_heap w B c cs t (0, 0) h.obj⟩
theorem Fr.setRow {S : Nat → Prop} {a b : World} (h : Fr S a b) {g : Nat} (hg : S g) (cs : Array Value) : Fr S a (b.setRow g cs) :=
  ⟨h.os, h.tape, h.output, by have := h.size; simp [World.setRow]; omega, fun k hk hS => by rw [heap_setRow _ _ _ (fun e => hS (by rw [e]; exact hg))]; exact h.block k hk hS⟩
theorem Gn.setRow {σ : Type} {W : Way σ} {S X : Nat → Prop} {w w' : World} {s : σ} (h : Gn W S w X s w') {B : Nat} (hX : X B) (hB : w.heap.size ≤ B) (cs : Array Value) : Gn W S w X s (w'.setRow B cs) :=
  h.fr (Y := fun k => k = B) (Fr.setRow (S := fun k => k = B) (Fr.refl _ _) rfl cs) (fun k e => by subst e; exact ⟨hX, hB⟩)
theorem Row.setRow {u : World} {B A : Nat} {ys : List Nat} {v : Value} (h : Row u A v ys) (hB : v.ownBlock ≠ some B) (cs : Array Value) : Row (u.setRow B cs) A v ys :=
  h.same (fun k hk => heap_setRow _ _ _ (fun e => hB (by rw [← e]; exact hk)))
theorem one23 {k0 k1 k2 k3 k4 k5 k6 k7 k8 k9 k10 k11 k12 k13 k14 k15 k16 k17 k18 k19 k20 k21 : IntKind} {a0 a1 a2 a3 a4 a5 a6 a7 a8 a9 a10 a11 a12 a13 a14 a15 a16 a17 a18 a19 a20 a21 : Int} {p : Option Addr} {n c : Nat} : (#[.int k0 a0, .int k1 a1, .int k2 a2, .int k3 a3, .int k4 a4, .int k5 a5, .int k6 a6, .int k7 a7, .int k8 a8, .int k9 a9, .int k10 a10, .int k11 a11, .int k12 a12, .int k13 a13, .int k14 a14, .int k15 a15, .int k16 a16, .int k17 a17, .int k18 a18, .int k19 a19, .int k20 a20, .int k21 a21, .slice p n c] : Array Value).all (fun v => v.oneCell') = true := by simp [Value.oneCell']
theorem size_msg : (Try.prog.info? 40).map (·.size) = some 23 := by kernel_rfl
end Go.Proofs.Ytkmiogaklmgnkaa
