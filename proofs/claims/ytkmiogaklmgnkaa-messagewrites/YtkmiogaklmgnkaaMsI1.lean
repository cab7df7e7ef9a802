/- Layer 5 (message): are two messages the same: the program's own answer. -/
import Derived.Test.YtkmiogaklmgnkaaMsI
namespace Go.Proofs.Ytkmiogaklmgnkaa
open Go.RowKit Go.Shelf
set_option linter.unusedVariables false
set_option linter.unusedSimpArgs false
attribute [local go_sem ↓] Go.wp_at_zero Go.wp_at_succ

set_option maxRecDepth 100000 in
set_option maxHeartbeats 40000000 in
theorem sameF {w : World} {p q : Option Addr} {c d : Nat} {a b : Msg} (ha : Arg w p a.bytes.length c fun i => .int .u8 ((a.bytes.getD i 0 : Nat) : Int)) (hb : Arg w q b.bytes.length d fun i => .int .u8 ((b.bytes.getD i 0 : Nat) : Int)) (hx : ∀ y ∈ a.bytes, y < 256) (hy : ∀ y ∈ b.bytes, y < 256) :
    Calls Try.prog 28 #[.agg (msgC a (.slice p a.bytes.length c)), .agg (msgC b (.slice q b.bytes.length d))] w fun e w' => e = .returned (.bool (decide (a = b))) ∧ Below w.heap.size w w' := by
  obtain ⟨r, hr⟩ : ∃ r, decide (a = b) = r := ⟨_, rfl⟩
  rw [hr]
  have hBel : Below w.heap.size w ((w.alloc (.cells #[.int .i64 a.kind, .int .u16 a.seq, .int .u16 a.cmd.seq, .int .u8 a.cmd.but, .int .i8 a.cmd.dx, .int .i8 a.cmd.dy, .int .i64 a.cmd.tk, .int .u16 a.prov, .int .i64 a.id, .int .i64 a.shot, .int .i64 a.dir.x, .int .i64 a.dir.y, .int .i64 a.dir.z, .int .i64 a.why, .int .i64 a.pos.x, .int .i64 a.pos.y, .int .i64 a.pos.z, .int .i64 a.vel.x, .int .i64 a.vel.y, .int .i64 a.vel.z, .int .u32 a.tick, .int .u32 a.base, .slice p a.bytes.length c] 40)).alloc (.cells #[.int .i64 b.kind, .int .u16 b.seq, .int .u16 b.cmd.seq, .int .u8 b.cmd.but, .int .i8 b.cmd.dx, .int .i8 b.cmd.dy, .int .i64 b.cmd.tk, .int .u16 b.prov, .int .i64 b.id, .int .i64 b.shot, .int .i64 b.dir.x, .int .i64 b.dir.y, .int .i64 b.dir.z, .int .i64 b.why, .int .i64 b.pos.x, .int .i64 b.pos.y, .int .i64 b.pos.z, .int .i64 b.vel.x, .int .i64 b.vel.y, .int .i64 b.vel.z, .int .u32 b.tick, .int .u32 b.base, .slice q b.bytes.length d] 40)) := ((Below.refl _ _).alloc (Nat.le_refl _) _).alloc (by simp) _
  have A := (Bq.new w 40 #[.int .i64 a.kind, .int .u16 a.seq, .int .u16 a.cmd.seq, .int .u8 a.cmd.but, .int .i8 a.cmd.dx, .int .i8 a.cmd.dy, .int .i64 a.cmd.tk, .int .u16 a.prov, .int .i64 a.id, .int .i64 a.shot, .int .i64 a.dir.x, .int .i64 a.dir.y, .int .i64 a.dir.z, .int .i64 a.why, .int .i64 a.pos.x, .int .i64 a.pos.y, .int .i64 a.pos.z, .int .i64 a.vel.x, .int .i64 a.vel.y, .int .i64 a.vel.z, .int .u32 a.tick, .int .u32 a.base, .slice p a.bytes.length c]).alloc (.cells #[.int .i64 b.kind, .int .u16 b.seq, .int .u16 b.cmd.seq, .int .u8 b.cmd.but, .int .i8 b.cmd.dx, .int .i8 b.cmd.dy, .int .i64 b.cmd.tk, .int .u16 b.prov, .int .i64 b.id, .int .i64 b.shot, .int .i64 b.dir.x, .int .i64 b.dir.y, .int .i64 b.dir.z, .int .i64 b.why, .int .i64 b.pos.x, .int .i64 b.pos.y, .int .i64 b.pos.z, .int .i64 b.vel.x, .int .i64 b.vel.y, .int .i64 b.vel.z, .int .u32 b.tick, .int .u32 b.base, .slice q b.bytes.length d] 40)
  have B := Bq.new' 40 #[.int .i64 b.kind, .int .u16 b.seq, .int .u16 b.cmd.seq, .int .u8 b.cmd.but, .int .i8 b.cmd.dx, .int .i8 b.cmd.dy, .int .i64 b.cmd.tk, .int .u16 b.prov, .int .i64 b.id, .int .i64 b.shot, .int .i64 b.dir.x, .int .i64 b.dir.y, .int .i64 b.dir.z, .int .i64 b.why, .int .i64 b.pos.x, .int .i64 b.pos.y, .int .i64 b.pos.z, .int .i64 b.vel.x, .int .i64 b.vel.y, .int .i64 b.vel.z, .int .u32 b.tick, .int .u32 b.base, .slice q b.bytes.length d] (show (w.alloc (.cells #[.int .i64 a.kind, .int .u16 a.seq, .int .u16 a.cmd.seq, .int .u8 a.cmd.but, .int .i8 a.cmd.dx, .int .i8 a.cmd.dy, .int .i64 a.cmd.tk, .int .u16 a.prov, .int .i64 a.id, .int .i64 a.shot, .int .i64 a.dir.x, .int .i64 a.dir.y, .int .i64 a.dir.z, .int .i64 a.why, .int .i64 a.pos.x, .int .i64 a.pos.y, .int .i64 a.pos.z, .int .i64 a.vel.x, .int .i64 a.vel.y, .int .i64 a.vel.z, .int .u32 a.tick, .int .u32 a.base, .slice p a.bytes.length c] 40)).heap.size = w.heap.size + 1 by simp)
  have hE := equalF (ha.keep hBel) (hb.keep hBel) hx hy
  obtain ⟨u, hu⟩ : ∃ u, ((w.alloc (.cells #[.int .i64 a.kind, .int .u16 a.seq, .int .u16 a.cmd.seq, .int .u8 a.cmd.but, .int .i8 a.cmd.dx, .int .i8 a.cmd.dy, .int .i64 a.cmd.tk, .int .u16 a.prov, .int .i64 a.id, .int .i64 a.shot, .int .i64 a.dir.x, .int .i64 a.dir.y, .int .i64 a.dir.z, .int .i64 a.why, .int .i64 a.pos.x, .int .i64 a.pos.y, .int .i64 a.pos.z, .int .i64 a.vel.x, .int .i64 a.vel.y, .int .i64 a.vel.z, .int .u32 a.tick, .int .u32 a.base, .slice p a.bytes.length c] 40)).alloc (.cells #[.int .i64 b.kind, .int .u16 b.seq, .int .u16 b.cmd.seq, .int .u8 b.cmd.but, .int .i8 b.cmd.dx, .int .i8 b.cmd.dy, .int .i64 b.cmd.tk, .int .u16 b.prov, .int .i64 b.id, .int .i64 b.shot, .int .i64 b.dir.x, .int .i64 b.dir.y, .int .i64 b.dir.z, .int .i64 b.why, .int .i64 b.pos.x, .int .i64 b.pos.y, .int .i64 b.pos.z, .int .i64 b.vel.x, .int .i64 b.vel.y, .int .i64 b.vel.z, .int .u32 b.tick, .int .u32 b.base, .slice q b.bytes.length d] 40)) = u := ⟨_, rfl⟩
  obtain ⟨va, hva⟩ : ∃ v, Value.agg #[.int .i64 a.kind, .int .u16 a.seq, .int .u16 a.cmd.seq, .int .u8 a.cmd.but, .int .i8 a.cmd.dx, .int .i8 a.cmd.dy, .int .i64 a.cmd.tk, .int .u16 a.prov, .int .i64 a.id, .int .i64 a.shot, .int .i64 a.dir.x, .int .i64 a.dir.y, .int .i64 a.dir.z, .int .i64 a.why, .int .i64 a.pos.x, .int .i64 a.pos.y, .int .i64 a.pos.z, .int .i64 a.vel.x, .int .i64 a.vel.y, .int .i64 a.vel.z, .int .u32 a.tick, .int .u32 a.base, .slice p a.bytes.length c] = v := ⟨_, rfl⟩
  obtain ⟨vb, hvb⟩ : ∃ v, Value.agg #[.int .i64 b.kind, .int .u16 b.seq, .int .u16 b.cmd.seq, .int .u8 b.cmd.but, .int .i8 b.cmd.dx, .int .i8 b.cmd.dy, .int .i64 b.cmd.tk, .int .u16 b.prov, .int .i64 b.id, .int .i64 b.shot, .int .i64 b.dir.x, .int .i64 b.dir.y, .int .i64 b.dir.z, .int .i64 b.why, .int .i64 b.pos.x, .int .i64 b.pos.y, .int .i64 b.pos.z, .int .i64 b.vel.x, .int .i64 b.vel.y, .int .i64 b.vel.z, .int .u32 b.tick, .int .u32 b.base, .slice q b.bytes.length d] = v := ⟨_, rfl⟩
  rw [hu] at A B hBel hE
  have Hu := hid hu; have Hva := hid hva; have Hvb := hid hvb
  have HB := hid hBel
  have HA := hid A; have HBb := hid B
  clear A B hBel ha hb hu hva hvb
  unfold msgC
  have a0 := HA.out.cell (i := 0) rfl; have b0 := HBb.out.cell (i := 0) rfl
  by_cases h_kind : a.kind = b.kind
  rotate_left
  · obtain rfl : r = false := by rw [← hr]; exact decide_eq_false (fun e => h_kind (by rw [e]))
    have q_kind : (a.kind == b.kind) = false := by simp [h_kind]
    clear h_kind hr hE
    clear HA HBb
    go_enter Try.func28, Try.ntmps28
    go_wp2_with (rw [Hu.out, Hva.out, Hvb.out])
    go_ret
    exact ⟨rfl, HB.out⟩
  have q_kind : (a.kind == b.kind) = true := by simp [h_kind]
  replace h_kind := hid h_kind
  have a1 := HA.out.cell (i := 1) rfl; have b1 := HBb.out.cell (i := 1) rfl
  by_cases h_seq : a.seq = b.seq
  rotate_left
  · obtain rfl : r = false := by rw [← hr]; exact decide_eq_false (fun e => h_seq (by rw [e]))
    have q_seq : (a.seq == b.seq) = false := by simp [h_seq]
    clear h_seq hr hE
    clear HA HBb
    go_enter Try.func28, Try.ntmps28
    go_wp2_with (rw [Hu.out, Hva.out, Hvb.out])
    go_ret
    exact ⟨rfl, HB.out⟩
  have q_seq : (a.seq == b.seq) = true := by simp [h_seq]
  replace h_seq := hid h_seq
  have a2 := HA.out.cell (i := 2) rfl; have b2 := HBb.out.cell (i := 2) rfl
  have a3 := HA.out.cell (i := 3) rfl; have b3 := HBb.out.cell (i := 3) rfl
  have a4 := HA.out.cell (i := 4) rfl; have b4 := HBb.out.cell (i := 4) rfl
  have a5 := HA.out.cell (i := 5) rfl; have b5 := HBb.out.cell (i := 5) rfl
  have a6 := HA.out.cell (i := 6) rfl; have b6 := HBb.out.cell (i := 6) rfl
  by_cases h_cmd : a.cmd = b.cmd
  rotate_left
  · obtain rfl : r = false := by rw [← hr]; exact decide_eq_false (fun e => h_cmd (by rw [e]))
    have q_cmd := cmd_eq a.cmd b.cmd; rw [decide_eq_false h_cmd] at q_cmd
    clear h_cmd hr hE
    clear HA HBb
    go_enter Try.func28, Try.ntmps28
    go_wp2_with (rw [Hu.out, Hva.out, Hvb.out])
    go_ret
    exact ⟨rfl, HB.out⟩
  have q_cmd := cmd_eq a.cmd b.cmd; rw [decide_eq_true h_cmd] at q_cmd
  replace h_cmd := hid h_cmd
  have a7 := HA.out.cell (i := 7) rfl; have b7 := HBb.out.cell (i := 7) rfl
  by_cases h_prov : a.prov = b.prov
  rotate_left
  · obtain rfl : r = false := by rw [← hr]; exact decide_eq_false (fun e => h_prov (by rw [e]))
    have q_prov : (a.prov == b.prov) = false := by simp [h_prov]
    clear h_prov hr hE
    clear HA HBb
    go_enter Try.func28, Try.ntmps28
    go_wp2_with (rw [Hu.out, Hva.out, Hvb.out])
    go_ret
    exact ⟨rfl, HB.out⟩
  have q_prov : (a.prov == b.prov) = true := by simp [h_prov]
  replace h_prov := hid h_prov
  have a8 := HA.out.cell (i := 8) rfl; have b8 := HBb.out.cell (i := 8) rfl
  by_cases h_id : a.id = b.id
  rotate_left
  · obtain rfl : r = false := by rw [← hr]; exact decide_eq_false (fun e => h_id (by rw [e]))
    have q_id : (a.id == b.id) = false := by simp [h_id]
    clear h_id hr hE
    clear HA HBb
    go_enter Try.func28, Try.ntmps28
    go_wp2_with (rw [Hu.out, Hva.out, Hvb.out])
    go_ret
    exact ⟨rfl, HB.out⟩
  have q_id : (a.id == b.id) = true := by simp [h_id]
  replace h_id := hid h_id
  have a9 := HA.out.cell (i := 9) rfl; have b9 := HBb.out.cell (i := 9) rfl
  by_cases h_shot : a.shot = b.shot
  rotate_left
  · obtain rfl : r = false := by rw [← hr]; exact decide_eq_false (fun e => h_shot (by rw [e]))
    have q_shot : (a.shot == b.shot) = false := by simp [h_shot]
    clear h_shot hr hE
    clear HA HBb
    go_enter Try.func28, Try.ntmps28
    go_wp2_with (rw [Hu.out, Hva.out, Hvb.out])
    go_ret
    exact ⟨rfl, HB.out⟩
  have q_shot : (a.shot == b.shot) = true := by simp [h_shot]
  replace h_shot := hid h_shot
  have a10 := HA.out.cell (i := 10) rfl; have b10 := HBb.out.cell (i := 10) rfl
  have a11 := HA.out.cell (i := 11) rfl; have b11 := HBb.out.cell (i := 11) rfl
  have a12 := HA.out.cell (i := 12) rfl; have b12 := HBb.out.cell (i := 12) rfl
  by_cases h_dir : a.dir = b.dir
  rotate_left
  · obtain rfl : r = false := by rw [← hr]; exact decide_eq_false (fun e => h_dir (by rw [e]))
    have q_dir := vec_eq a.dir b.dir; rw [decide_eq_false h_dir] at q_dir
    clear h_dir hr hE
    clear HA HBb
    go_enter Try.func28, Try.ntmps28
    go_wp2_with (rw [Hu.out, Hva.out, Hvb.out])
    go_ret
    exact ⟨rfl, HB.out⟩
  have q_dir := vec_eq a.dir b.dir; rw [decide_eq_true h_dir] at q_dir
  replace h_dir := hid h_dir
  have a13 := HA.out.cell (i := 13) rfl; have b13 := HBb.out.cell (i := 13) rfl
  by_cases h_why : a.why = b.why
  rotate_left
  · obtain rfl : r = false := by rw [← hr]; exact decide_eq_false (fun e => h_why (by rw [e]))
    have q_why : (a.why == b.why) = false := by simp [h_why]
    clear h_why hr hE
    clear HA HBb
    go_enter Try.func28, Try.ntmps28
    go_wp2_with (rw [Hu.out, Hva.out, Hvb.out])
    go_ret
    exact ⟨rfl, HB.out⟩
  have q_why : (a.why == b.why) = true := by simp [h_why]
  replace h_why := hid h_why
  have a14 := HA.out.cell (i := 14) rfl; have b14 := HBb.out.cell (i := 14) rfl
  have a15 := HA.out.cell (i := 15) rfl; have b15 := HBb.out.cell (i := 15) rfl
  have a16 := HA.out.cell (i := 16) rfl; have b16 := HBb.out.cell (i := 16) rfl
  by_cases h_pos : a.pos = b.pos
  rotate_left
  · obtain rfl : r = false := by rw [← hr]; exact decide_eq_false (fun e => h_pos (by rw [e]))
    have q_pos := vec_eq a.pos b.pos; rw [decide_eq_false h_pos] at q_pos
    clear h_pos hr hE
    clear HA HBb
    go_enter Try.func28, Try.ntmps28
    go_wp2_with (rw [Hu.out, Hva.out, Hvb.out])
    go_ret
    exact ⟨rfl, HB.out⟩
  have q_pos := vec_eq a.pos b.pos; rw [decide_eq_true h_pos] at q_pos
  replace h_pos := hid h_pos
  have a17 := HA.out.cell (i := 17) rfl; have b17 := HBb.out.cell (i := 17) rfl
  have a18 := HA.out.cell (i := 18) rfl; have b18 := HBb.out.cell (i := 18) rfl
  have a19 := HA.out.cell (i := 19) rfl; have b19 := HBb.out.cell (i := 19) rfl
  by_cases h_vel : a.vel = b.vel
  rotate_left
  · obtain rfl : r = false := by rw [← hr]; exact decide_eq_false (fun e => h_vel (by rw [e]))
    have q_vel := vec_eq a.vel b.vel; rw [decide_eq_false h_vel] at q_vel
    clear h_vel hr hE
    clear HA HBb
    go_enter Try.func28, Try.ntmps28
    go_wp2_with (rw [Hu.out, Hva.out, Hvb.out])
    go_ret
    exact ⟨rfl, HB.out⟩
  have q_vel := vec_eq a.vel b.vel; rw [decide_eq_true h_vel] at q_vel
  replace h_vel := hid h_vel
  have a20 := HA.out.cell (i := 20) rfl; have b20 := HBb.out.cell (i := 20) rfl
  by_cases h_tick : a.tick = b.tick
  rotate_left
  · obtain rfl : r = false := by rw [← hr]; exact decide_eq_false (fun e => h_tick (by rw [e]))
    have q_tick : (a.tick == b.tick) = false := by simp [h_tick]
    clear h_tick hr hE
    clear HA HBb
    go_enter Try.func28, Try.ntmps28
    go_wp2_with (rw [Hu.out, Hva.out, Hvb.out])
    go_ret
    exact ⟨rfl, HB.out⟩
  have q_tick : (a.tick == b.tick) = true := by simp [h_tick]
  replace h_tick := hid h_tick
  have a21 := HA.out.cell (i := 21) rfl; have b21 := HBb.out.cell (i := 21) rfl
  by_cases h_base : a.base = b.base
  rotate_left
  · obtain rfl : r = false := by rw [← hr]; exact decide_eq_false (fun e => h_base (by rw [e]))
    have q_base : (a.base == b.base) = false := by simp [h_base]
    clear h_base hr hE
    clear HA HBb
    go_enter Try.func28, Try.ntmps28
    go_wp2_with (rw [Hu.out, Hva.out, Hvb.out])
    go_ret
    exact ⟨rfl, HB.out⟩
  have q_base : (a.base == b.base) = true := by simp [h_base]
  replace h_base := hid h_base
  obtain rfl : decide (a.bytes = b.bytes) = r := by rw [← hr]; congr 1; exact propext ⟨fun e => Msg.ext h_kind.out h_seq.out h_cmd.out h_prov.out h_id.out h_shot.out h_dir.out h_why.out h_pos.out h_vel.out h_tick.out h_base.out e, fun e => by rw [e]⟩
  generalize decide (a.bytes = b.bytes) = r at *
  have a22 := HA.out.cell (i := 22) rfl; have b22 := HBb.out.cell (i := 22) rfl
  clear HA HBb
  go_enter Try.func28, Try.ntmps28
  go_wp2_with (rw [Hu.out, Hva.out, Hvb.out])
  refine hE.mono ?_
  rintro e w2 ⟨rfl, hb2⟩
  dsimp only
  have HB2 := hid hb2
  clear hb2 hE
  go_wp2_with fail
  go_ret
  exact ⟨rfl, btrans HB.out HB2.out⟩
end Go.Proofs.Ytkmiogaklmgnkaa
