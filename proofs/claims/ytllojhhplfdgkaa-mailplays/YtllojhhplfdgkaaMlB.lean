/- Layer 7 (mail): Box[string]: Put and Take, of boxes as they lie in memory. -/
import Derived.Test.YtllojhhplfdgkaaMlA
import Derived.Conc.LoneCalls
import Derived.Conc.LoneSelect
import Derived.Conc.LoneSelectN
import Derived.KernelRfl
import Derived.Laws.Rows
namespace Go.Proofs.Ytllojhhplfdgkaa
open Go.Conc Go.RowKit
set_option linter.unusedVariables false
set_option linter.unusedSimpArgs false
set_option maxRecDepth 100000 in
theorem putS_room (b c cap s r : Nat) (buf : Array Value) (lost : Int) (x : ByteArray) (w : World) (ho : w.heap[b]? = some (.cells #[.chan (some c), .int .i64 lost] 55 (0, 0))) (hc : w.heap[c]? = some (.chan cap buf false s r false)) (hr : buf.size < cap) :
    Calls Try.prog 20 #[.pointer (some ⟨b, 0, none⟩), .string x] w fun e w' => e = .returned (.bool true) ∧ w' = (w.alloc (.cells #[.string x] 9)).setChan c cap (buf.push (.pointer (some ⟨w.heap.size, 0, none⟩))) false (s + 1) r false := by
  refine calls_of_loneTo fun cs => ?_
  have e : Frame.enter Try.prog 20 #[.pointer (some ⟨b, 0, none⟩), .string x] .normal = (base 20).at ⟨#[.pointer (some ⟨b, 0, none⟩), .string x, undef, undef, undef, undef, undef, undef, undef, undef, undef, undef, undef, undef, undef, undef, undef, undef, undef], []⟩ [.code (Try.f20.body.getD .skip)] := by
    simp [Frame.enter, Frame.at, Try.func20, base, Try.f20]
  rw [e]
  have hb : b < w.heap.size := (Array.getElem?_eq_some_iff.1 ho).1
  have hcl : c < w.heap.size := (Array.getElem?_eq_some_iff.1 hc).1
  obtain ⟨w1, hw1⟩ : ∃ w1, w.alloc (.cells #[.string x] 9) = w1 := ⟨_, rfl⟩
  have ho1 : w1.heap[b]? = some (.cells #[.chan (some c), .int .i64 lost] 55 (0, 0)) := by rw [← hw1, Below.heap_alloc _ _ _ hb]; exact ho
  have hc1 : w1.heap[c]? = some (.chan cap buf false s r false) := by rw [← hw1, Below.heap_alloc _ _ _ hcl]; exact hc
  have c0 : w1.cell? ⟨b, 0, none⟩ = some (.chan (some c)) := by rw [cell_of_row w1 b _ _ _ (0, 0) ho1]; rfl
  refine LoneTo.goes (n := 14) ?_
  simp only [Try.f20, Option.getD_some]
  s_c stepG_seq
  s_reg
  s_op
  rw [hw1]
  s_op
  s_c stepG_region_end
  s_c stepG_seq
  s_reg
  s_op
  s_op
  s_op
  s_op
  s_c stepG_region_end
  s_c stepG_seq
  s_reg
  s_stop
  refine LoneTo.step (step_lone_select_send_room (c := c) (v := .pointer (some ⟨w.heap.size, 0, none⟩)) (z' := .pointer none) (cap := cap) (buf := buf) (s := s) (r := r) (tm := false) (stepG_comm (cases := #[scase c (.pointer (some ⟨w.heap.size, 0, none⟩)) (.pointer none)]) (blocking := false) (shape := .select) (w' := w1) rfl rfl (by decide) (by simp [go_sem, execOp, scase, Act.eval])) hc1 hr) ?_
  rw [Frame.finish_at]
  walk_nrm
  refine LoneTo.goes (n := 10) ?_
  s_op
  s_op
  s_c stepG_region_end
  s_c stepG_block
  s_cond true
  s_c stepG_seq
  s_reg
  s_op
  s_c stepG_region_end
  s_c stepG_ret'
  s_stop
  exact LoneTo.done ⟨.returned (.bool true), _, rfl, ⟨rfl, by simp⟩, rfl, rfl, rfl, rfl, _, Try.func20, by simp [results, Try.f20, Frame.at]⟩

set_option maxRecDepth 100000 in
theorem putS_full (b c cap s r : Nat) (buf : Array Value) (lost : Int) (x : ByteArray) (w : World) (ho : w.heap[b]? = some (.cells #[.chan (some c), .int .i64 lost] 55 (0, 0))) (hc : w.heap[c]? = some (.chan cap buf false s r false)) (hr : cap ≤ buf.size) (hl : IntKind.wrap .i64 (lost + 1) = lost + 1) :
    Calls Try.prog 20 #[.pointer (some ⟨b, 0, none⟩), .string x] w fun e w' => e = .returned (.bool false) ∧ w' = (w.alloc (.cells #[.string x] 9)).setCell ⟨b, 1, none⟩ (.int .i64 (lost + 1)) := by
  refine calls_of_loneTo fun cs => ?_
  have e : Frame.enter Try.prog 20 #[.pointer (some ⟨b, 0, none⟩), .string x] .normal = (base 20).at ⟨#[.pointer (some ⟨b, 0, none⟩), .string x, undef, undef, undef, undef, undef, undef, undef, undef, undef, undef, undef, undef, undef, undef, undef, undef, undef], []⟩ [.code (Try.f20.body.getD .skip)] := by
    simp [Frame.enter, Frame.at, Try.func20, base, Try.f20]
  rw [e]
  have hb : b < w.heap.size := (Array.getElem?_eq_some_iff.1 ho).1
  have hcl : c < w.heap.size := (Array.getElem?_eq_some_iff.1 hc).1
  obtain ⟨w1, hw1⟩ : ∃ w1, w.alloc (.cells #[.string x] 9) = w1 := ⟨_, rfl⟩
  have ho1 : w1.heap[b]? = some (.cells #[.chan (some c), .int .i64 lost] 55 (0, 0)) := by rw [← hw1, Below.heap_alloc _ _ _ hb]; exact ho
  have hc1 : w1.heap[c]? = some (.chan cap buf false s r false) := by rw [← hw1, Below.heap_alloc _ _ _ hcl]; exact hc
  have c0 : w1.cell? ⟨b, 0, none⟩ = some (.chan (some c)) := by rw [cell_of_row w1 b _ _ _ (0, 0) ho1]; rfl
  have c1 : w1.cell? ⟨b, 1, none⟩ = some (.int .i64 lost) := by rw [cell_of_row w1 b _ _ _ (0, 0) ho1]; rfl
  have fz : w1.frozen? ⟨b, 1, none⟩ = false := by simp [World.frozen?, ho1]
  refine LoneTo.goes (n := 14) ?_
  simp only [Try.f20, Option.getD_some]
  s_c stepG_seq
  s_reg
  s_op
  rw [hw1]
  s_op
  s_c stepG_region_end
  s_c stepG_seq
  s_reg
  s_op
  s_op
  s_op
  s_op
  s_c stepG_region_end
  s_c stepG_seq
  s_reg
  s_stop
  refine LoneTo.step (step_lone_select_send_full (c := c) (v := .pointer (some ⟨w.heap.size, 0, none⟩)) (z' := .pointer none) (cap := cap) (buf := buf) (s := s) (r := r) (tm := false) (stepG_comm (cases := #[scase c (.pointer (some ⟨w.heap.size, 0, none⟩)) (.pointer none)]) (blocking := false) (shape := .select) (w' := w1) rfl rfl (by decide) (by simp [go_sem, execOp, scase, Act.eval])) hc1 hr) ?_
  rw [Frame.finish_at]
  walk_nrm
  refine LoneTo.goes (n := 21) ?_
  s_op
  s_op
  s_c stepG_region_end
  s_c stepG_block
  s_cond false
  s_c stepG_seq
  s_reg
  s_op
  s_op
  s_op
  s_op
  s_op
  s_op
  s_op
  s_op
  s_c stepG_region_end
  s_c stepG_seq
  s_reg
  s_op
  s_c stepG_region_end
  s_c stepG_ret'
  s_stop
  exact LoneTo.done ⟨.returned (.bool false), _, rfl, ⟨rfl, by simp [hl]⟩, rfl, rfl, rfl, rfl, _, Try.func20, by simp [results, Try.f20, Frame.at]⟩

set_option maxRecDepth 100000 in
theorem takeS_some (b c cap s r q : Nat) (buf : Array Value) (lost : Int) (x : ByteArray) (w : World) (ho : w.heap[b]? = some (.cells #[.chan (some c), .int .i64 lost] 55 (0, 0))) (hc : w.heap[c]? = some (.chan cap buf false s r false)) (hr : 0 < buf.size) (hq : buf.getD 0 undef = .pointer (some ⟨q, 0, none⟩)) (hx : w.heap[q]? = some (.cells #[.string x] 9 (0, 0))) :
    Calls Try.prog 23 #[.pointer (some ⟨b, 0, none⟩)] w fun e w' => e = .returned (.tuple #[.string x, .bool true]) ∧ w' = w.setChan c cap (buf.extract 1 buf.size) false s (r + 1) false := by
  refine calls_of_loneTo fun cs => ?_
  have e : Frame.enter Try.prog 23 #[.pointer (some ⟨b, 0, none⟩)] .normal = (base 23).at ⟨#[.pointer (some ⟨b, 0, none⟩), undef, undef, undef, undef, undef, undef, undef, undef, undef, undef, undef, undef, undef, undef, undef, undef], []⟩ [.code (Try.f23.body.getD .skip)] := by
    simp [Frame.enter, Frame.at, Try.func23, base, Try.f23]
  rw [e]
  have c0 : w.cell? ⟨b, 0, none⟩ = some (.chan (some c)) := by rw [cell_of_row w b _ _ _ (0, 0) ho]; rfl
  have hqc : q ≠ c := by intro e; subst e; rw [hc] at hx; cases hx
  refine LoneTo.goes (n := 14) ?_
  simp only [Try.f23, Option.getD_some]
  s_c stepG_seq
  s_reg
  s_op
  s_op
  s_c stepG_region_end
  s_c stepG_seq
  s_reg
  s_op
  s_op
  s_op
  s_op
  s_c stepG_region_end
  s_c stepG_seq
  s_reg
  s_stop
  refine LoneTo.step (step_lone_select_recv_buf (c := c) (z := .pointer none) (cap := cap) (buf := buf) (closed := false) (s := s) (r := r) (tm := false) (stepG_comm (cases := #[rcase c (.pointer none)]) (blocking := false) (shape := .select) (w' := w) rfl rfl (by decide) (by simp [go_sem, execOp, rcase, Act.eval])) hc hr) ?_
  rw [Frame.finish_at, hq]
  obtain ⟨w1, hw1⟩ : ∃ w1, w.setChan c cap (buf.extract 1 buf.size) false s (r + 1) false = w1 := ⟨_, rfl⟩
  have hx1 : w1.heap[q]? = some (.cells #[.string x] 9 (0, 0)) := by rw [← hw1]; simp only [World.setChan]; rw [Array.getElem?_setIfInBounds_ne (by omega)]; exact hx
  have c1 : w1.cell? ⟨q, 0, none⟩ = some (.string x) := by rw [cell_of_row w1 q _ _ _ (0, 0) hx1]; rfl
  rw [hw1]
  walk_nrm
  refine LoneTo.goes (n := 19) ?_
  s_op
  s_op
  s_c stepG_region_end
  s_c stepG_block
  s_cond true
  s_c stepG_seq
  s_reg
  s_op
  s_op
  s_c stepG_region_end
  s_c stepG_seq
  s_reg
  s_op
  s_op
  s_op
  s_op
  s_op
  s_c stepG_region_end
  s_c stepG_ret'
  s_stop
  exact LoneTo.done ⟨.returned (.tuple #[.string x, .bool true]), _, rfl, ⟨rfl, by simp [hw1]⟩, rfl, rfl, rfl, rfl, _, Try.func23, by simp [results, Try.f23, Frame.at]⟩

set_option maxRecDepth 100000 in
theorem takeS_none (b c cap s r : Nat) (lost : Int) (w : World) (ho : w.heap[b]? = some (.cells #[.chan (some c), .int .i64 lost] 55 (0, 0))) (hc : w.heap[c]? = some (.chan cap #[] false s r false)) :
    Calls Try.prog 23 #[.pointer (some ⟨b, 0, none⟩)] w fun e w' => e = .returned (.tuple #[.string ⟨#[]⟩, .bool false]) ∧ w' = w := by
  refine calls_of_loneTo fun cs => ?_
  have e : Frame.enter Try.prog 23 #[.pointer (some ⟨b, 0, none⟩)] .normal = (base 23).at ⟨#[.pointer (some ⟨b, 0, none⟩), undef, undef, undef, undef, undef, undef, undef, undef, undef, undef, undef, undef, undef, undef, undef, undef], []⟩ [.code (Try.f23.body.getD .skip)] := by
    simp [Frame.enter, Frame.at, Try.func23, base, Try.f23]
  rw [e]
  have c0 : w.cell? ⟨b, 0, none⟩ = some (.chan (some c)) := by rw [cell_of_row w b _ _ _ (0, 0) ho]; rfl
  refine LoneTo.goes (n := 14) ?_
  simp only [Try.f23, Option.getD_some]
  s_c stepG_seq
  s_reg
  s_op
  s_op
  s_c stepG_region_end
  s_c stepG_seq
  s_reg
  s_op
  s_op
  s_op
  s_op
  s_c stepG_region_end
  s_c stepG_seq
  s_reg
  s_stop
  refine LoneTo.step (step_lone_select_default (c := c) (z := .pointer none) (cap := cap) (s := s) (r := r) (tm := false) (stepG_comm (cases := #[rcase c (.pointer none)]) (blocking := false) (shape := .select) (w' := w) rfl rfl (by decide) (by simp [go_sem, execOp, rcase, Act.eval])) hc) ?_
  rw [Frame.finish_at]
  walk_nrm
  refine LoneTo.goes (n := 12) ?_
  s_op
  s_op
  s_c stepG_region_end
  s_c stepG_block
  s_cond false
  s_c stepG_seq
  s_reg
  s_op
  s_op
  s_op
  s_c stepG_region_end
  s_c stepG_ret'
  s_stop
  exact LoneTo.done ⟨.returned (.tuple #[.string ⟨#[]⟩, .bool false]), _, rfl, ⟨rfl, by simp⟩, rfl, rfl, rfl, rfl, _, Try.func23, by simp [results, Try.f23, Frame.at]⟩
end Go.Proofs.Ytllojhhplfdgkaa
