/- Layer 5 (message): what must be in any case. -/
import Derived.Test.YtkmiogaklmgnkaaMsS
import Derived.Test.YtkmiogaklmgnkaaMsV
namespace Go.Proofs.Ytkmiogaklmgnkaa
open Go.RowKit Go.Shelf
set_option linter.unusedVariables false
set_option linter.unusedSimpArgs false
attribute [local go_sem ↓] Go.wp_at_zero Go.wp_at_succ

/-- One message as a row. -/
theorem argM_one {w : World} {m : Msg} {p : Option Addr} {c : Nat} (hm : MOk m) (ha : Arg w p m.bytes.length c fun i => .int .u8 ((m.bytes.getD i 0 : Nat) : Int)) :
    ArgM (w.alloc (.cells (msgC m (.slice p m.bytes.length c)) 40)) (some ⟨w.heap.size, 0, none⟩) 1 [m] (fun _ => (p, c)) := by
  have h0 : ∀ i, i < ([m] : List Msg).length → mg [m] i = m := fun i hi => by
    obtain rfl : i = 0 := by simp at hi; omega
    rfl
  refine ⟨Nat.le_refl _, by unfold maxLen; omega, .inr ⟨_, 0, rfl, by simp, fun i hi j v hv => ?_⟩, fun i hi => ?_, fun i hi => ?_⟩
  · unfold mgC at hv
    rw [h0 i hi] at hv
    obtain rfl : i = 0 := by simp at hi; omega
    rw [cell_of_row _ _ _ _ _ _ (heap_alloc_new w _), Nat.zero_mul, Nat.zero_add]
    exact hv
  · rw [h0 i hi]; exact ha.keep ((Below.refl _ _).alloc (Nat.le_refl _) _)
  · rw [h0 i hi]; exact hm
theorem arg_nil (w : World) : Arg w none (bare 0).bytes.length 0 fun i => .int .u8 (((bare 0).bytes.getD i 0 : Nat) : Int) := ⟨Nat.le_refl _, by unfold maxLen; omega, .inl rfl⟩
def m5 : Msg := { bare 5 with id := 1 }
theorem m5_ok : MOk m5 := ⟨(bare_ok 5).seq, (bare_ok 5).cseq, (bare_ok 5).but, (bare_ok 5).dx, (bare_ok 5).dy, (bare_ok 5).prov, (bare_ok 5).tick, (bare_ok 5).base, (bare_ok 5).byte⟩
theorem enc_shown : encE [bare 1] = 0 := by decide +kernel
theorem pack_shown : Packs [8, 128] 7 (encJ [bare 1] ([bare 1] : List Msg).length) := ⟨by decide +kernel, by omega, by decide⟩
theorem dec_shown : decS [8, 128] = ([bare 1], 0) := by decide +kernel
theorem dec_shown2 : decS [8] = ([], 2) := by decide +kernel
theorem dec_shown3 : decS [8, 129] = ([], 3) := by decide +kernel
theorem right_shown : rgtB (bare 0) = false := by decide +kernel
theorem right_shown2 : rgtB m5 = true := by decide +kernel
theorem two_bytes_arg (w : World) (x y : Nat) : Arg (w.alloc (.cells #[.int .u8 (x : Int), .int .u8 (y : Int)] 5)) (some ⟨w.heap.size, 0, none⟩) ([x, y] : List Nat).length 2 fun i => .int .u8 ((([x, y] : List Nat).getD i 0 : Nat) : Int) :=
  ⟨Nat.le_refl _, by unfold maxLen; omega, .inr ⟨_, 0, rfl, by simp, fun i hi => by
    have hi' : i < 2 := hi
    rw [cell_of_row _ _ _ _ _ _ (heap_alloc_new w _), Nat.zero_add]
    match i, hi' with
    | 0, _ => rfl
    | 1, _ => rfl⟩⟩
set_option maxRecDepth 100000 in
set_option maxHeartbeats 2000000 in
theorem shownF (w : World) : Calls Try.prog 12 #[] w fun e w' => e = .returned (.bool true) ∧ Below w.heap.size w w' := by
  have hEn := fun (u : World) => encodeF (some ⟨u.heap.size, 0, none⟩) 1 [bare 1] (fun _ => (none, 0)) (u.alloc (.cells #[.int .i64 1, .int .u16 0, .int .u16 0, .int .u8 0, .int .i8 0, .int .i8 0, .int .i64 0, .int .u16 0, .int .i64 0, .int .i64 0, .int .i64 0, .int .i64 0, .int .i64 0, .int .i64 0, .int .i64 0, .int .i64 0, .int .i64 0, .int .i64 0, .int .i64 0, .int .i64 0, .int .u32 0, .int .u32 0, .slice none 0 0] 40)) (argM_one (m := bare 1) (p := none) (c := 0) (bare_ok 1) (arg_nil u))
  rw [enc_shown] at hEn
  have hR0 := fun (u : World) => rightF (bare 0) none 0 u (bare_ok 0) (arg_nil u)
  have hR5 := fun (u : World) => rightF m5 none 0 u m5_ok (arg_nil u)
  rw [right_shown, show msgC (bare 0) (.slice none (bare 0).bytes.length 0) = #[.int .i64 0, .int .u16 0, .int .u16 0, .int .u8 0, .int .i8 0, .int .i8 0, .int .i64 0, .int .u16 0, .int .i64 0, .int .i64 0, .int .i64 0, .int .i64 0, .int .i64 0, .int .i64 0, .int .i64 0, .int .i64 0, .int .i64 0, .int .i64 0, .int .i64 0, .int .i64 0, .int .u32 0, .int .u32 0, .slice none 0 0] from rfl] at hR0
  rw [right_shown2, show msgC m5 (.slice none m5.bytes.length 0) = #[.int .i64 5, .int .u16 0, .int .u16 0, .int .u8 0, .int .i8 0, .int .i8 0, .int .i64 0, .int .u16 0, .int .i64 1, .int .i64 0, .int .i64 0, .int .i64 0, .int .i64 0, .int .i64 0, .int .i64 0, .int .i64 0, .int .i64 0, .int .i64 0, .int .i64 0, .int .i64 0, .int .u32 0, .int .u32 0, .slice none 0 0] from rfl] at hR5
  go_enter Try.func12, Try.ntmps12
  go_wp2_with fail
  refine (hEn w).mono ?_
  rintro e u ⟨⟨v, ys, rfl, hrow, hp, _⟩, hb⟩
  obtain ⟨f, hp⟩ := hp rfl
  obtain rfl := hp.uniq pack_shown
  obtain ⟨p1, c1, rfl, ha1⟩ := hrow.arg
  dsimp only
  have hb1 : Below w.heap.size w u := ((Below.refl _ _).alloc (Nat.le_refl _) _).trans (hb.mono (by simp))
  have HA1 := hid ha1; have HB1 := hid hb1
  have hD := decodeF p1 c1 [8, 128] u ha1 (by decide) (by simp)
  rw [dec_shown] at hD
  clear hEn hrow hp hb ha1 hb1
  go_wp2_with fail
  refine hD.mono ?_
  rintro e u2 ⟨⟨v2, q2, X2, rfl, hM2⟩, hb2⟩
  dsimp only
  obtain ⟨p2, c2, rfl, hA2⟩ := hM2.argM
  have HA2 := hid hA2
  have HB2 := hid (btrans HB1.out hb2)
  have HA1b := hid (HA1.out.keep hb2)
  clear hD hM2 hA2 hb2 HA1 HB1
  go_wp2_with fail
  have hD2 := decodeF (some ⟨u2.heap.size, 0, none⟩) 1 [8] _ (one_byte u2 8) (by decide) (by simp)
  rw [dec_shown2] at hD2
  refine hD2.mono ?_
  rintro e u3 ⟨⟨v3, q3, X3, rfl, hM3⟩, hb3⟩
  dsimp only
  have hb3' : Below u2.heap.size u2 u3 := ((Below.refl _ _).alloc (Nat.le_refl _) _).trans (hb3.mono (by simp))
  obtain ⟨p3, c3, rfl, _⟩ := hM3.argM
  have HB3 := hid (btrans HB2.out hb3')
  have HA2b := hid (HA2.out.keep hb3')
  have HA1c := hid (HA1b.out.keep hb3')
  clear hD2 hM3 hb3 hb3' HB2 HA2 HA1b
  go_wp2_with fail
  have hD3 := decodeF (some ⟨u3.heap.size, 0, none⟩) 2 [8, 129] _ (two_bytes_arg u3 8 129) (by decide) (by simp)
  rw [dec_shown3] at hD3
  refine hD3.mono ?_
  rintro e u4 ⟨⟨v4, q4, X4, rfl, hM4⟩, hb4⟩
  dsimp only
  have hb4' : Below u3.heap.size u3 u4 := ((Below.refl _ _).alloc (Nat.le_refl _) _).trans (hb4.mono (by simp))
  obtain ⟨p4, c4, rfl, _⟩ := hM4.argM
  have HB4 := hid (btrans HB3.out hb4')
  have hA2 := HA2b.out.keep hb4'
  have hA1 := HA1c.out.keep hb4'
  obtain ⟨b2, o2, rfl, hlt2, hc2⟩ := hA2.at (i := 0) (by simp)
  have k0 := hc2 0 (by simp) 0 (.int .i64 1) rfl
  have hle2 := hA2.le; have hm2 := hA2.most
  unfold maxLen at hm2
  have hcv : (convert 25 9 (.slice p1 2 c1)).run Try.prog u4 = .ok (.string (str [8, 128])) u4 := conv_arg hA1
  have hst : str [8, 128] = ⟨#[8, 128]⟩ := by decide +kernel
  rw [hst] at hcv
  clear hD3 hM4 hb4 hb4' HB3 HA2b HA1c hA2 hA1 hc2 hst
  simp only [Nat.zero_mul, Nat.add_zero] at k0
  go_wp2_with fail
  refine (hR0 u4).mono ?_
  rintro e u5 ⟨rfl, hb5⟩
  dsimp only
  have HB5 := hid (btrans HB4.out hb5)
  clear hb5 HB4 hR0
  go_wp2_with fail
  refine (hR5 u5).mono ?_
  rintro e u6 ⟨rfl, hb6⟩
  dsimp only
  have HB6 := hid (btrans HB5.out hb6)
  clear hb6 HB5 hR5
  go_wp2_with fail
  go_ret
  exact ⟨rfl, HB6.out⟩
end Go.Proofs.Ytkmiogaklmgnkaa
