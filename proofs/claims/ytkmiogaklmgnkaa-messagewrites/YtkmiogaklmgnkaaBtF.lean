/- Layer 3 (bits): Reader.Get, Reader.Sign, Reader.Rest. -/
import Derived.Test.YtkmiogaklmgnkaaBtE
import Derived.Test.YtkmiogaklmgnkaaBtD
namespace Go.Proofs.Ytkmiogaklmgnkaa
open Go.RowKit Go.Shelf
set_option linter.unusedVariables false
attribute [local go_sem] Oper.semAt_some

theorem RdAt.drewN {w : World} {S : Nat → Prop} {b : Nat} {rs : List Bool} (h : RdAt w S b rs) (n : Nat) : RdAt (w.drewN n) S b rs :=
  h.keep (S' := fun _ => False) ((Fr.refl _ _).drewN n) (fun _ _ e => e)
theorem fr_putObj {S : Nat → Prop} {A B : World} (h : Fr S A B) {D : Nat} (hD : A.heap.size ≤ D) (o : Obj) : Fr S A (B.putObj D o) :=
  ⟨h.os, h.tape, h.output, by have := h.size; simpa using this, fun i hi hn => (World.putObj_heap_other (by omega)).trans (h.block i hi hn)⟩
theorem leaves_none {F : Fence} {n : Nat} {P : Program} {fn : Func} {tmps : Array Value} {v : Value} {J : World → Prop} {W : World} (hJ : J W) (hr : (results fn tmps).run P W = .ok v W) :
    LeavesInM F n P fn tmps (fun e w' => e = .returned v ∧ J w') [] .returning W := ⟨v, hr, rfl, hJ⟩
set_option maxRecDepth 100000 in
set_option maxHeartbeats 2000000 in
/-- There are not so many. -/
theorem get_no (S : Nat → Prop) (b : Nat) (rs : List Bool) (x : Int) (w : World) (h : RdAt w S b rs) (hc : rs.length < cnt x) :
    Calls Try.prog 56 #[.pointer (some ⟨b, 0, none⟩), .int .i64 x] w fun e w' => e = .returned (.tuple #[.int .u64 0, .bool false]) ∧ RdAt w' S b [] ∧ Fr S w w' := by
  have hcn := counted x
  have hc64 := cnt_le x
  obtain ⟨c, hce⟩ : ∃ c, cnt x = c := ⟨_, rfl⟩
  rw [hce] at hcn hc hc64
  have hleft := fun n => leftR S b rs (w.drewN n) (h.drewN n)
  obtain ⟨ys, t, v, hb, hrs, ht, hy, hl⟩ := h
  have hrl : rs.length = 8 * ys.length - t := by rw [hrs, List.length_drop, unpack_length]
  obtain ⟨a0, a1, hblt⟩ := hb.cells
  have z1 := hb.thaw 1
  obtain ⟨p, cap, rfl, hcap, hcm⟩ := hb.form
  obtain ⟨r, hr⟩ : ∃ r, rs.length = r := ⟨_, rfl⟩
  rw [hr] at hleft hc hrl
  have e1 : (r : Int) < (c : Int) := by omega
  have HB := hid hb
  have HR := hid hrl
  have hbig : (t : Int) + (r : Int) ≤ 800000 := by omega
  have hw := wrap_i64 (n := (t : Int) + (r : Int)) (by omega) (by omega)
  clear hb hrs hce hr hrl
  refine (callsIn_wide (n := 9)).1 ?_
  refine callsIn_of_wp_marks Try.func56 rfl trivial ?_ rfl
  simp only [Try.ntmps56, List.size_toArray, List.length_cons, List.length_nil, Nat.reduceAdd, Nat.reduceSub, Array.replicate_succ, Array.replicate_zero, List.push_toArray, List.append_toArray, List.nil_append, List.cons_append]
  refine wpIn_wide.2 ?_
  go_wp2_with fail
  refine (hcn _).mono ?_; rintro e w' ⟨rfl, rfl⟩
  go_wp2_with fail
  refine (hleft 0).mono ?_; rintro e w' ⟨rfl, n1, rfl⟩
  go_wp2_with fail
  refine wp_region_noPanic ?_
  go_region_with ((go_at_call 58; refine (hleft _).mono ?_; rintro e w' ⟨rfl, n2, rfl⟩))
  all_goals
    refine NoPanic.normal ?_
    go_wp2_with fail
    refine leaves_none (v := .tuple #[.int .u64 0, .bool false]) (J := fun w1 => RdAt w1 S b [] ∧ Fr S w' w1) ?_ (by simp [results, Try.results56, go_sem])
    refine ⟨⟨ys, t + r, .slice p ys.length cap, ?_, ?_, ?_, hy, hl⟩, Fr.setCell (p := ⟨b, 1, none⟩) ((Fr.refl _ _).drewN _) HB.out.inb _⟩
    · rw [Int.natCast_add]
      exact (HB.out.keep (S' := fun _ => False) ((Fr.refl _ _).drewN _) (fun _ _ e => e)).setSecond _
    · rw [HR.out, List.drop_of_length_le (by rw [unpack_length]; omega)]
    · rw [HR.out]; omega
theorem own_const {β : Type} {B : Nat} {I : World → Prop} (h : ∀ (A C : World), I A → Kc (fun _ => False) A C → I C) : OwnFrom (β := β) B (fun _ W => I W) :=
  own_of_kc fun _ A C hA hk => h A C hA hk
theorem rd_own {β : Type} {B : Nat} {S : Nat → Prop} {b : Nat} {rs : List Bool} : OwnFrom (β := β) B (fun _ W => RdAt W S b rs) :=
  own_const (fun A C h k => h.keepC k (fun _ _ e => e))
/-- A reader, so many bits taken. -/
theorem RdAt.taken {w : World} {S : Nat → Prop} {b t c : Nat} {ys : List Nat} {v : Value} {rs : List Bool} (hb : Bx 105 w S b ys (t : Int) v) (hrs : rs = (unpack ys).drop t) (ht : t ≤ 8 * ys.length) (hy : ∀ y ∈ ys, y < 256) (hl : ys.length ≤ 100000) (hc : c ≤ rs.length) :
    RdAt (w.setCell ⟨b, 1, none⟩ (.int .i64 ((t : Int) + (c : Int)))) S b (rs.drop c) := by
  refine ⟨ys, t + c, v, ?_, ?_, ?_, hy, hl⟩
  · rw [Int.natCast_add]; exact hb.setSecond _
  · rw [hrs, List.drop_drop]
  · rw [hrs, List.length_drop, unpack_length] at hc; omega
set_option maxRecDepth 100000 in
set_option maxHeartbeats 2000000 in
/-- There are so many. -/
theorem get_yes (S : Nat → Prop) (b : Nat) (rs : List Bool) (x : Int) (w : World) (h : RdAt w S b rs) (hc : cnt x ≤ rs.length) :
    Calls Try.prog 56 #[.pointer (some ⟨b, 0, none⟩), .int .i64 x] w fun e w' => e = .returned (.tuple #[.int .u64 (val (rs.take (cnt x)) : Nat), .bool true]) ∧ RdAt w' S b (rs.drop (cnt x)) ∧ Fr S w w' := by
  have hcn := counted x
  have hc64 := cnt_le x
  obtain ⟨c, hce⟩ : ∃ c, cnt x = c := ⟨_, rfl⟩
  rw [hce] at hcn hc hc64 ⊢
  have hleft := leftR S b rs w h
  have hS := h.lt
  have hblt : b < w.heap.size := by obtain ⟨ys, t, v, hb, _⟩ := h; exact hb.lt b hb.inb
  have e1 : ¬ (rs.length : Int) < (c : Int) := by omega
  have H := hid h
  clear h hce
  refine (callsIn_wide (n := 9)).1 ?_
  refine callsIn_of_wp_marks Try.func56 rfl trivial ?_ rfl
  simp only [Try.ntmps56, List.size_toArray, List.length_cons, List.length_nil, Nat.reduceAdd, Nat.reduceSub, Array.replicate_succ, Array.replicate_zero, List.push_toArray, List.append_toArray, List.nil_append, List.cons_append]
  refine wpIn_wide.2 ?_
  go_wp2_with fail
  refine (hcn _).mono ?_; rintro e w' ⟨rfl, rfl⟩
  go_wp2_with fail
  refine hleft.mono ?_; rintro e w1 ⟨rfl, n1, hw1⟩
  have hb1 : Below w'.heap.size w' w1 := by rw [hw1]; exact below_drewN _ _
  have hs1 : w1.heap.size = w'.heap.size := by rw [hw1]; rfl
  clear hw1
  go_wp2_with fail
  refine (nextF _ _ _).mono ?_; rintro e W0 ⟨rfl, hW0⟩
  have e2 : (w1.alloc (.cells #[.int .u64 0] 88)).heap.size = w1.heap.size + 1 := by simp
  rw [e2]
  have vn : Vr W0 w1.heap.size 88 (.int .u64 0) := by rw [hW0]; exact ((Vr.new w1 _ _).alloc _).alloc _
  have vr : Vr W0 (w1.heap.size + 1) 74 (.pointer (some ⟨b, 0, none⟩)) := by
    rw [hW0]; have := (Vr.new (w1.alloc (.cells #[.int .u64 0] 88)) 74 (.pointer (some ⟨b, 0, none⟩))).alloc (.cells #[.int .i64 (c : Int)] 3)
    rwa [World.size_alloc] at this
  have vc : Vr W0 (w1.heap.size + 1 + 1) 3 (.int .i64 (c : Int)) := by
    rw [hW0]; have := Vr.new ((w1.alloc (.cells #[.int .u64 0] 88)).alloc (.cells #[.pointer (some ⟨b, 0, none⟩)] 74)) 3 (.int .i64 (c : Int))
    rwa [World.size_alloc, World.size_alloc] at this
  have hB0 : Below w'.heap.size w' W0 := by rw [hW0]; exact ((hb1.alloc (by omega) _).alloc (by simp; omega) _).alloc (by simp; omega) _
  have hR0 := H.out.below hB0
  rw [hs1] at vn vr vc ⊢
  have hstops := next_stops 8 (by decide) (fun k => k = w'.heap.size) S (w'.heap.size + 1) (w'.heap.size + 1 + 1) b c rs W0 hR0 hc vr vc (by omega) (by omega) (fun k hk e => by have := hS k hk; omega)
  have hs0 : w'.heap.size < W0.heap.size := vn.lt
  have HR0 := hid hR0
  have HN := hid vn
  clear hW0 vn vr vc hb1 hs1 e2 hR0 hcn hleft
  go_wp2_with fail
  refine (wpIn_wide (n := 9)).1 (wpIn_rangeFunc_ownF rfl (by decide) (gf := 73) (lb := #[.pointer (some ⟨w'.heap.size + 1, 0, none⟩), .pointer (some ⟨w'.heap.size + 1 + 1, 0, none⟩)]) rfl trivial (enters_of Try.func73 (by kernel_rfl) rfl) hstops Kc.trans (Kc.putObj _) (Below.refl _ _) (fun _ => rfl)
    (fun pre W => Vr W w'.heap.size 88 (.int .u64 ((val pre : Nat) : Int)) ∧ RdAt W S b rs ∧ Below w'.heap.size w' W) (fun _ _ _ => False) (OwnFrom.and own_vr (OwnFrom.and rd_own (ownFrom_below (Nat.le_refl _) hB0.size))) (fun _ _ _ _ _ h _ _ => h) ⟨HN.out, HR0.out, hB0⟩ ?_ ?_ ?_ ?_ ?_)
  rotate_left
  · intro l y W K hK
    gi_wp2
    exact hK
  · rintro l pre y W ⟨vn, hR, hB⟩ hlen
    have cn := vn.cell; have fn := vn.thaw
    have hv := val_lt pre
    have hp63 : 2 ^ pre.length ≤ 2 ^ 63 := Nat.pow_le_pow_right (by decide) (by omega)
    have hsn := val_snoc pre y
    obtain ⟨m, hm⟩ : ∃ m, val pre = m := ⟨_, rfl⟩
    rw [hm] at cn hv hsn
    have hm63 : m < 2 ^ 63 := by omega
    have h1 := get_bit (b := y) hm63
    have h2 := wrap_u64 (n := 2 * m) (by omega)
    have h3 : ((2 * m : Nat) : Int) = (m : Int) * 2 := by omega
    rw [h3] at h2
    have hyw := wrap_u64 (n := y.toNat) (by have := y.toNat_le; omega)
    have HS := hid hsn
    have HV := hid vn; have HR := hid hR; have HB := hid hB
    clear hsn hm hv hp63 h3 vn hR hB hstops hm63
    gi_wp2
    exact ⟨KeepsOthers.setCell _ _ _, Kc.setCell (X := fun k => k = w'.heap.size) (Kc.refl _ _) rfl _, by rw [HS.out]; exact HV.out.set _, HR.out.keep (S' := fun k => k = w'.heap.size) (Fr.setCell (S := fun k => k = w'.heap.size) (p := ⟨w'.heap.size, 0, none⟩) (Fr.refl _ _) rfl _) (fun k hk e => by have := hS k hk; omega), HB.out.setCell (p := ⟨w'.heap.size, 0, none⟩) (Nat.le_refl _) _⟩
  · rintro D zs W hD rfl ⟨vn, hR, hB⟩ hK
    have cn := vn.cell
    obtain ⟨ys, t, v, hb, hrs, ht, hy, hl⟩ := hR
    obtain ⟨a0, a1, _⟩ := hb.cells
    have z1 := hb.thaw 1
    have HT := hid (show RdAt _ S b (rs.drop c) from RdAt.taken hb hrs ht hy hl hc)
    have HV := hid vn; have HB := hid hB
    have hinb := hb.inb
    have hsm : (t : Int) + (c : Int) ≤ 900000 := by omega
    have HW := hid (show (W.setCell ⟨b, 1, none⟩ (.int .i64 ((t : Int) + (c : Int)))).heap[D]? = some (.deferred (some [])) from (KeepsOthers.setCell W ⟨b, 1, none⟩ _).same D _ hK rfl)
    obtain ⟨m, hm⟩ : ∃ m, val (rs.take c) = m := ⟨_, rfl⟩
    rw [hm] at cn
    have hne : b ≠ w'.heap.size := by omega
    have HM := hid hm
    clear hb hstops vn hB hm hrs
    gi_wp2
    go_wp2_with fail
    rw [HM.out]
    refine leaves_one (v := .tuple #[.int .u64 (m : Int), .bool true]) (J := fun w1 => RdAt w1 S b (rs.drop c) ∧ Fr S w' w1) HW.out (fun o => ⟨HT.out.keepC (Kc.putObj (X := fun _ => False) 0 _ _ _ o (Nat.zero_le _) HW.out rfl rfl) (fun _ _ e => e), ?_⟩) (fun W' _ => by simp [results, Try.results56, go_sem])
    exact fr_putObj (Fr.setCell (p := ⟨b, 1, none⟩) (Fr.of_below S HB.out) hinb _) (by have := hB0.size; omega) o
  · rintro D c' pre W hD hsp hix hK
    exact hix.elim
end Go.Proofs.Ytkmiogaklmgnkaa
