/- Layer 5 (message): messages that lie in a row; are they all right? -/
import Derived.Test.YtkmiogaklmgnkaaMsJ
namespace Go.Proofs.Ytkmiogaklmgnkaa
open Go.RowKit Go.Shelf
set_option linter.unusedVariables false
set_option linter.unusedSimpArgs false
attribute [local go_sem ↓] Go.wp_at_zero Go.wp_at_succ

def mg (ms : List Msg) (i : Nat) : Msg := ms.getD i (bare 0)
def mgC (ms : List Msg) (q : Nat → Option Addr × Nat) (i : Nat) : Array Value := msgC (mg ms i) (.slice (q i).1 (mg ms i).bytes.length (q i).2)
/-- Messages as a slice; q: where each one's bytes lie. -/
structure ArgM (w : World) (p : Option Addr) (cap : Nat) (ms : List Msg) (q : Nat → Option Addr × Nat) : Prop where
  le : ms.length ≤ cap
  most : cap ≤ maxLen
  cells : ms.length = 0 ∨ ∃ b o, p = some ⟨b, o, none⟩ ∧ b < w.heap.size ∧ ∀ i, i < ms.length → ∀ j v, (mgC ms q i)[j]? = some v → w.cell? ⟨b, o + i * 23 + j, none⟩ = some v
  bytes : ∀ i, i < ms.length → Arg w (q i).1 (mg ms i).bytes.length (q i).2 fun k => .int .u8 (((mg ms i).bytes.getD k 0 : Nat) : Int)
  ok : ∀ i, i < ms.length → MOk (mg ms i)
theorem ArgM.keep {w w' : World} {p : Option Addr} {cap : Nat} {ms : List Msg} {q : Nat → Option Addr × Nat} (h : ArgM w p cap ms q) (hb : Below w.heap.size w w') : ArgM w' p cap ms q := by
  refine ⟨h.le, h.most, ?_, fun i hi => (h.bytes i hi).keep hb, h.ok⟩
  rcases h.cells with h | ⟨b, o, rfl, hlt, hc⟩
  · exact .inl h
  · exact .inr ⟨b, o, rfl, Nat.lt_of_lt_of_le hlt hb.size, fun i hi j v hv => (hb.cell (p := ⟨b, _, none⟩) hlt).trans (hc i hi j v hv)⟩
theorem ArgM.at {w : World} {p : Option Addr} {cap : Nat} {ms : List Msg} {q : Nat → Option Addr × Nat} (h : ArgM w p cap ms q) {i : Nat} (hi : i < ms.length) : ∃ b o, p = some ⟨b, o, none⟩ ∧ b < w.heap.size ∧ ∀ i, i < ms.length → ∀ j v, (mgC ms q i)[j]? = some v → w.cell? ⟨b, o + i * 23 + j, none⟩ = some v := by
  rcases h.cells with h | h
  · omega
  · exact h
/-- A whole message out of a row. -/
theorem run_load_at (w : World) (b o : Nat) (cs : Array Value) (hs : cs.size = 23) (hc : ∀ j v, cs[j]? = some v → w.cell? ⟨b, o + j, none⟩ = some v) : (loadVar 40 ⟨b, o, none⟩).run Try.prog w = .ok (.agg cs) w := by
  have hl : (loadCells ⟨b, o, none⟩ cs.toList.length).run Try.prog w = .ok cs.toList.toArray w :=
    run_loadCells_list (P := Try.prog) w ⟨b, o, none⟩ cs.toList (fun j v hv => by
      rw [Addr.add_lit]
      exact hc j v (by simpa using hv))
  have hi := size_msg
  cases hq : Try.prog.info? 40 with
  | none => simp [hq] at hi
  | some i =>
    have hs : i.size = cs.size := by rw [hs]; simpa [hq] using hi
    have hagg : (isAgg 40).run Try.prog w = .ok true w := by
      unfold isAgg
      rw [Sem.run_bind, run_underlying Try.underlying40 w]
      rfl
    simp only [Array.length_toList, Array.toArray_toList] at hl
    simp [loadVar, Sem.run_bind, hagg, sizeOf, typeInfo, hq, hs, hl]
theorem wp_load_at {o : Oper} {a : Act} {w : World} {K : Act → World → Prop} {Q : Exit → Act → World → Prop} (x : Operand) (ho : o.op = .load 40 x)
    (b off : Nat) (hx : a.eval x = .pointer (some ⟨b, off, none⟩)) (cs : Array Value) (hs : cs.size = 23) (hc : ∀ j v, cs[j]? = some v → w.cell? ⟨b, off + j, none⟩ = some v)
    (h : K (a.put o.dst (.agg cs)) w) : o.wp Try.prog a w K Q := by
  unfold Oper.wp execOp
  simp only [ho, hx, Instr.loadAt, Instr.sureAddr, Sem.run_bind, Sem.run_pure, Result.andThen_ok, run_load_at w b off cs hs hc]
  exact h
theorem wpList_load_at {ops : Array Oper} {rest : List Oper} {o : Oper} {a : Act} {w : World} {Q : Exit → Act → World → Prop} (hgd : o.guard = none) (x : Operand) (ho : o.op = .load 40 x)
    (b off : Nat) (hx : a.eval x = .pointer (some ⟨b, off, none⟩)) (cs : Array Value) (hs : cs.size = 23) (hc : ∀ j v, cs[j]? = some v → w.cell? ⟨b, off + j, none⟩ = some v)
    (h : wpList Try.prog ops Q rest (a.put o.dst (.agg cs)) w) : wpList Try.prog ops Q (o :: rest) a w :=
  wpList_plain hgd fun _ hK => wp_load_at x ho b off hx cs hs hc (hK _ _ h)
theorem mgC_size (ms : List Msg) (q : Nat → Option Addr × Nat) (i : Nat) : (mgC ms q i).size = 23 := rfl
set_option maxRecDepth 100000 in
theorem notRightF (m : Msg) (p : Option Addr) (cap : Nat) (w : World) (hm : MOk m) (ha : Arg w p m.bytes.length cap fun i => .int .u8 ((m.bytes.getD i 0 : Nat) : Int)) :
    Calls Try.prog 22 #[.agg (msgC m (.slice p m.bytes.length cap))] w fun e w' => e = .returned (.bool (!rgtB m)) ∧ Below w.heap.size w w' := by
  have hB := (Below.refl w.heap.size w).alloc (Nat.le_refl _) (.cells #[.int .i64 m.kind, .int .u16 m.seq, .int .u16 m.cmd.seq, .int .u8 m.cmd.but, .int .i8 m.cmd.dx, .int .i8 m.cmd.dy, .int .i64 m.cmd.tk, .int .u16 m.prov, .int .i64 m.id, .int .i64 m.shot, .int .i64 m.dir.x, .int .i64 m.dir.y, .int .i64 m.dir.z, .int .i64 m.why, .int .i64 m.pos.x, .int .i64 m.pos.y, .int .i64 m.pos.z, .int .i64 m.vel.x, .int .i64 m.vel.y, .int .i64 m.vel.z, .int .u32 m.tick, .int .u32 m.base, .slice p m.bytes.length cap] 40)
  have hR := rightF m p cap (w.alloc (.cells #[.int .i64 m.kind, .int .u16 m.seq, .int .u16 m.cmd.seq, .int .u8 m.cmd.but, .int .i8 m.cmd.dx, .int .i8 m.cmd.dy, .int .i64 m.cmd.tk, .int .u16 m.prov, .int .i64 m.id, .int .i64 m.shot, .int .i64 m.dir.x, .int .i64 m.dir.y, .int .i64 m.dir.z, .int .i64 m.why, .int .i64 m.pos.x, .int .i64 m.pos.y, .int .i64 m.pos.z, .int .i64 m.vel.x, .int .i64 m.vel.y, .int .i64 m.vel.z, .int .u32 m.tick, .int .u32 m.base, .slice p m.bytes.length cap] 40)) hm (ha.keep hB)
  have A1 := Bq.new w 40 #[.int .i64 m.kind, .int .u16 m.seq, .int .u16 m.cmd.seq, .int .u8 m.cmd.but, .int .i8 m.cmd.dx, .int .i8 m.cmd.dy, .int .i64 m.cmd.tk, .int .u16 m.prov, .int .i64 m.id, .int .i64 m.shot, .int .i64 m.dir.x, .int .i64 m.dir.y, .int .i64 m.dir.z, .int .i64 m.why, .int .i64 m.pos.x, .int .i64 m.pos.y, .int .i64 m.pos.z, .int .i64 m.vel.x, .int .i64 m.vel.y, .int .i64 m.vel.z, .int .u32 m.tick, .int .u32 m.base, .slice p m.bytes.length cap]
  have hcm : msgC m (.slice p m.bytes.length cap) = #[.int .i64 m.kind, .int .u16 m.seq, .int .u16 m.cmd.seq, .int .u8 m.cmd.but, .int .i8 m.cmd.dx, .int .i8 m.cmd.dy, .int .i64 m.cmd.tk, .int .u16 m.prov, .int .i64 m.id, .int .i64 m.shot, .int .i64 m.dir.x, .int .i64 m.dir.y, .int .i64 m.dir.z, .int .i64 m.why, .int .i64 m.pos.x, .int .i64 m.pos.y, .int .i64 m.pos.z, .int .i64 m.vel.x, .int .i64 m.vel.y, .int .i64 m.vel.z, .int .u32 m.tick, .int .u32 m.base, .slice p m.bytes.length cap] := rfl
  rw [hcm] at hR ⊢
  generalize rgtB m = r at *
  have H1 := hid A1; have HB := hid hB
  clear A1 hB hcm
  go_enter Try.func22, Try.ntmps22
  go_wp2_with (refine wpList_load_row rfl 40 _ rfl w.heap.size rfl 40 #[.int .i64 m.kind, .int .u16 m.seq, .int .u16 m.cmd.seq, .int .u8 m.cmd.but, .int .i8 m.cmd.dx, .int .i8 m.cmd.dy, .int .i64 m.cmd.tk, .int .u16 m.prov, .int .i64 m.id, .int .i64 m.shot, .int .i64 m.dir.x, .int .i64 m.dir.y, .int .i64 m.dir.z, .int .i64 m.why, .int .i64 m.pos.x, .int .i64 m.pos.y, .int .i64 m.pos.z, .int .i64 m.vel.x, .int .i64 m.vel.y, .int .i64 m.vel.z, .int .u32 m.tick, .int .u32 m.base, .slice p m.bytes.length cap] (0, 0) _ H1.out.obj Try.underlying40 rfl size_msg ?_)
  refine hR.mono ?_
  rintro e u ⟨rfl, hb⟩
  dsimp only
  have HB2 := hid (btrans HB.out hb)
  clear hb hR HB H1
  go_wp2_with fail
  go_ret
  exact ⟨rfl, HB2.out⟩
end Go.Proofs.Ytkmiogaklmgnkaa
