/- Layer 3 (bits): Writer.Sign, Reader.Sign, Reader.Rest. -/
import Derived.Test.YtkmiogaklmgnkaaBtF
namespace Go.Proofs.Ytkmiogaklmgnkaa
open Go.RowKit Go.Shelf
set_option linter.unusedVariables false
attribute [local go_sem] Oper.semAt_some

theorem signW (S : Nat → Prop) (b : Nat) (bs : List Bool) (n : Nat) (z x : Int) (w : World) (h : WrAt w S b bs) (hl : bs.length ≤ 700000) (hz : IntKind.u64.wrap z = (n : Int)) :
    Calls Try.prog 93 #[.pointer (some ⟨b, 0, none⟩), .int .i64 z, .int .i64 x] w fun e w' => e = .returned (.tuple #[]) ∧ ∃ S', WrAt w' S' b (bs ++ low n (cnt x)) ∧ Fr S w w' ∧ Sub w S S' := by
  have hp := put S b bs n x w h hl
  clear h
  go_enter Try.func93, Try.ntmps93
  go_wp2_with (go_at_call 41; refine hp.mono ?_; rintro e w' ⟨rfl, hq⟩; have HQ := hid hq; clear hq)
  go_end0
  exact ⟨rfl, HQ.out⟩
/-- Bits as two's complement. -/
def sgn (l : List Bool) : Int := (val l : Int) - if l.head? = some true then 2 ^ l.length else 0
theorem wrap_high {N : Nat} (h : N < 2 ^ 63) : IntKind.i64.wrap ((2 ^ 63 + N : Nat) : Int) = ((2 ^ 63 + N : Nat) : Int) - ((2 ^ 64 : Nat) : Int) := by
  unfold IntKind.wrap
  simp only [IntKind.signed, IntKind.bits, Bool.true_and]
  rw [if_pos (by simp; omega)]
  omega
theorem sgn_shift {l : List Bool} {a : Nat} (h : l.length + a = 64) : IntKind.i64.wrap (IntKind.u64.wrap ((val l : Int) * 2 ^ a)) / 2 ^ a = sgn l := by
  have hv := val_lt l
  have hpow : 2 ^ l.length * 2 ^ a = 2 ^ 64 := by rw [← Nat.pow_add, h]
  have hpa : 0 < 2 ^ a := Nat.pow_pos (by decide)
  have hva : val l * 2 ^ a < 2 ^ 64 := by rw [← hpow]; exact Nat.mul_lt_mul_of_pos_right hv hpa
  have e1 : (val l : Int) * 2 ^ a = ((val l * 2 ^ a : Nat) : Int) := by rw [Int.natCast_mul, Int.natCast_pow]; rfl
  rw [e1, wrap_u64 hva]
  have e2 : ((2 : Int) ^ a) = ((2 ^ a : Nat) : Int) := by rw [Int.natCast_pow]; rfl
  unfold sgn
  cases l with
  | nil =>
    have hv0 : val ([] : List Bool) = 0 := rfl
    rw [hv0, Nat.zero_mul]
    rw [wrap_i64 (by decide) (by decide)]
    simp
  | cons b l =>
    have hl := val_lt l
    have h1 : 2 ^ l.length * 2 ^ a = 2 ^ 63 := by rw [← Nat.pow_add]; congr 1; simp at h; omega
    have h2 : val l * 2 ^ a < 2 ^ 63 := by rw [← h1]; exact Nat.mul_lt_mul_of_pos_right hl hpa
    cases b with
    | false =>
      have hv0 : val (false :: l) = val l := by rw [val_cons]; simp
      rw [hv0, wrap_i64 (by omega) (by omega), e2, ← Int.natCast_ediv, Nat.mul_div_cancel _ hpa]
      simp
    | true =>
      have hv0 : val (true :: l) = 2 ^ l.length + val l := by rw [val_cons]; simp
      have h3 : val (true :: l) * 2 ^ a = 2 ^ 63 + val l * 2 ^ a := by rw [hv0, Nat.add_mul, h1]
      have e3 : IntKind.i64.wrap ((val (true :: l) * 2 ^ a : Nat) : Int) = ((val (true :: l) * 2 ^ a : Nat) : Int) - ((2 ^ 64 : Nat) : Int) := by
        rw [h3]
        exact wrap_high h2
      rw [e3, ← hpow, e2, Int.natCast_mul, Int.natCast_mul, ← Int.sub_mul, Int.mul_ediv_cancel _ (by omega)]
      simp
theorem sgn_nil : sgn [] = 0 := rfl
def restB (l : List Bool) : Bool := decide (l.length < 8) && l.all (fun b => !b)
set_option maxRecDepth 100000 in
theorem sign_no (S : Nat → Prop) (b : Nat) (rs : List Bool) (x : Int) (w : World) (h : RdAt w S b rs) (hc : rs.length < cnt x) :
    Calls Try.prog 97 #[.pointer (some ⟨b, 0, none⟩), .int .i64 x] w fun e w' => e = .returned (.tuple #[.int .i64 0, .bool false]) ∧ RdAt w' S b [] ∧ Fr S w w' := by
  have hg := get_no S b rs x w h hc
  have hcn := counted x
  have hc64 := cnt_le x
  obtain ⟨c, hce⟩ : ∃ c, cnt x = c := ⟨_, rfl⟩
  rw [hce] at hcn hc64
  obtain ⟨a, ha⟩ : ∃ a : Nat, 64 - c = a := ⟨_, rfl⟩
  have ha' : (64 : Int) - (c : Int) = (a : Int) := by omega
  have ha64 : a ≤ 64 := by omega
  have hs := sgn_shift (l := List.replicate c false) (a := a) (by simp; omega)
  clear h hc hce ha
  go_enter Try.func97, Try.ntmps97
  go_wp2_with (first
    | (go_at_call 56; refine hg.mono ?_; rintro e w' ⟨rfl, hq⟩; have HQ := hid hq; clear hq)
    | (go_at_call 66; refine (hcn _).mono ?_; rintro e w' ⟨rfl, rfl⟩))
  go_ret2
  exact ⟨rfl, HQ.out⟩
set_option maxRecDepth 100000 in
theorem sign_yes (S : Nat → Prop) (b : Nat) (rs : List Bool) (x : Int) (w : World) (h : RdAt w S b rs) (hc : cnt x ≤ rs.length) :
    Calls Try.prog 97 #[.pointer (some ⟨b, 0, none⟩), .int .i64 x] w fun e w' => e = .returned (.tuple #[.int .i64 (sgn (rs.take (cnt x))), .bool true]) ∧ RdAt w' S b (rs.drop (cnt x)) ∧ Fr S w w' := by
  have hg := get_yes S b rs x w h hc
  have hcn := counted x
  have hc64 := cnt_le x
  obtain ⟨c, hce⟩ : ∃ c, cnt x = c := ⟨_, rfl⟩
  rw [hce] at hcn hc64 hg hc ⊢
  obtain ⟨a, ha⟩ : ∃ a : Nat, 64 - c = a := ⟨_, rfl⟩
  have ha' : (64 : Int) - (c : Int) = (a : Int) := by omega
  have ha64 : a ≤ 64 := by omega
  have hs := sgn_shift (l := rs.take c) (a := a) (by rw [List.length_take]; omega)
  obtain ⟨m, hm⟩ : ∃ m, val (rs.take c) = m := ⟨_, rfl⟩
  obtain ⟨q, hq⟩ : ∃ q, sgn (rs.take c) = q := ⟨_, rfl⟩
  rw [hm] at hg hs
  rw [hq] at hs ⊢
  rw [Go.IntWalk.i64_left] at hs
  clear h hc hce ha hm hq
  go_enter Try.func97, Try.ntmps97
  go_wp2_with (first
    | (go_at_call 56; refine hg.mono ?_; rintro e w' ⟨rfl, hq⟩; have HQ := hid hq; clear hq)
    | (go_at_call 66; refine (hcn _).mono ?_; rintro e w' ⟨rfl, rfl⟩))
  go_ret2
  exact ⟨rfl, HQ.out⟩
theorem leaves_two {F : Fence} {n : Nat} {P : Program} {fn : Func} {tmps : Array Value} {D : Nat} {v : Value} {J : World → Prop} {R : Ending → World → Prop} {W : World} (hD : W.heap[D]? = some (.deferred (some []))) (hJ : ∀ o, J (W.putObj D o)) (hr : ∀ W', J W' → (results fn tmps).run P W' = .ok v W') (hR : ∀ W', J W' → R (.returned v) W') :
    LeavesInM F n P fn tmps R [mark D] .returning W :=
  ⟨by simp, .inl ⟨D, _, rfl, run_takeDeferred hD, ⟨v, hr _ (hJ _), hR _ (hJ _)⟩⟩⟩
/-- What a round of Rest keeps. -/
structure RestI (w : World) (S : Nat → Prop) (b A : Nat) (rs : List Bool) (v : Bool) (W : World) : Prop where
  rd : RdAt W S b rs
  box : Vr W A 4 (.bool v)
  bel : Below w.heap.size w W
theorem RestI.own {β : Type} {w : World} {S : Nat → Prop} {b A B : Nat} {rs : List Bool} {v : Bool} {p : β → Prop} (hB : w.heap.size ≤ B) : OwnFrom B (fun (s : β) W => p s ∧ RestI w S b A rs v W) := by
  intro pre W W' row ⟨hp, h1, h3, h4⟩ hg hr
  have hk := Kc.of_grown hg (fun k e => (hr k e).2) (fun _ => False)
  exact ⟨hp, h1.keepC hk (fun _ _ e => e), h3.keepC hk (fun e => e), ownFrom_below (β := Unit) (Nat.le_refl _) hB () W W' row h4 hg hr⟩
set_option maxRecDepth 100000 in
set_option maxHeartbeats 2000000 in
theorem restR (S : Nat → Prop) (b : Nat) (rs : List Bool) (w : World) (h : RdAt w S b rs) :
    Calls Try.prog 34 #[.pointer (some ⟨b, 0, none⟩)] w fun e w' => e = .returned (.bool (restB rs)) ∧ RdAt w' S b rs ∧ Below w.heap.size w w' := by
  have hS := h.lt
  have hleft := fun W (hb : Below w.heap.size w W) => leftR S b rs W (h.below hb)
  obtain ⟨r, hr⟩ : ∃ r, rs.length = r := ⟨_, rfl⟩
  rw [hr] at hleft
  have H := hid h
  have HR := hid hr
  have v0 := Vr.new w 4 (.bool false)
  have hB0 : Below w.heap.size w (w.alloc (.cells #[.bool false] 4)) := (Below.refl _ _).alloc (Nat.le_refl _) _
  clear h hr
  refine (callsIn_wide (n := 9)).1 ?_
  refine callsIn_of_wp_marks Try.func34 rfl trivial ?_ rfl
  simp only [Try.ntmps34, List.size_toArray, List.length_cons, List.length_nil, Nat.reduceAdd, Nat.reduceSub, Array.replicate_succ, Array.replicate_zero, List.push_toArray, List.append_toArray, List.nil_append, List.cons_append]
  refine wpIn_wide.2 ?_
  go_wp2_with fail
  refine (hleft _ hB0).mono ?_; rintro e w1 ⟨rfl, n1, hw1⟩
  have hB1 : Below w.heap.size w w1 := by rw [hw1]; exact hB0.trans (below_drewN _ _)
  have v1 : Vr w1 w.heap.size 4 (.bool false) := by rw [hw1]; exact ⟨v0.obj⟩
  clear hw1 v0 hB0
  by_cases h8 : 8 ≤ r
  · have e1 : (8 : Int) ≤ (r : Int) := by omega
    have c1 := v1.cell; have f1 := v1.thaw
    have V1 := hid v1
    clear v1
    go_wp2_with fail
    have hrb : restB rs = false := by unfold restB; rw [HR.out, decide_eq_false (by omega)]; rfl
    rw [hrb]
    have v3 := V1.out.set (.bool false)
    refine leaves_none (v := .bool false) (J := fun w1 => RdAt w1 S b rs ∧ Below w.heap.size w w1) ⟨?_, hB1.setCell (p := ⟨w.heap.size, 0, none⟩) (Nat.le_refl _) _⟩ (by simp [results, Try.results34, go_sem, v3.cell])
    exact H.out.below (hB1.setCell (p := ⟨w.heap.size, 0, none⟩) (Nat.le_refl _) _)
  · have e1 : ¬ (8 : Int) ≤ (r : Int) := by omega
    go_wp2_with fail
    refine (hleft _ hB1).mono ?_; rintro e w2 ⟨rfl, n2, hw2⟩
    have hB2 : Below w.heap.size w w2 := by rw [hw2]; exact hB1.trans (below_drewN _ _)
    have v2 : Vr w2 w.heap.size 4 (.bool false) := by rw [hw2]; exact ⟨v1.obj⟩
    clear hw2 v1 hB1
    go_wp2_with fail
    refine (nextF _ _ _).mono ?_; rintro e W0 ⟨rfl, hW0⟩
    have vb : Vr W0 w.heap.size 4 (.bool false) := by rw [hW0]; exact (v2.alloc _).alloc _
    have vr : Vr W0 w2.heap.size 74 (.pointer (some ⟨b, 0, none⟩)) := by rw [hW0]; exact (Vr.new w2 _ _).alloc _
    have vc : Vr W0 (w2.heap.size + 1) 3 (.int .i64 (r : Int)) := by
      rw [hW0]; have := Vr.new (w2.alloc (.cells #[.pointer (some ⟨b, 0, none⟩)] 74)) 3 (.int .i64 (r : Int))
      rwa [World.size_alloc] at this
    have hB0 : Below w.heap.size w W0 := by rw [hW0]; exact (hB2.alloc hB2.size _).alloc (by have := hB2.size; simp; omega) _
    have hlt2 := v2.lt
    have hR0 := H.out.below hB0
    have hstops := next_stops 8 (by decide) (fun k => k = w.heap.size) S w2.heap.size (w2.heap.size + 1) b r rs W0 hR0 (by have := HR.out; omega) vr vc (by omega) (by omega) (fun k hk e => by have := hS k hk; omega)
    rw [List.take_of_length_le (by have := HR.out; omega)] at hstops
    have hI0 : RestI w S b w.heap.size rs false W0 := ⟨hR0, vb, hB0⟩
    clear hW0 vb vr vc hR0 v2 hleft
    go_wp2_with fail
    refine (wpIn_wide (n := 9)).1 (wpIn_rangeFunc_ownF rfl (by decide) (gf := 73) (lb := #[.pointer (some ⟨w2.heap.size, 0, none⟩), .pointer (some ⟨w2.heap.size + 1, 0, none⟩)]) rfl trivial (enters_of Try.func73 (by kernel_rfl) rfl) hstops Kc.trans (Kc.putObj _) (Below.refl _ _) (fun _ => rfl)
      (fun pre W => pre.all (fun y => !y) = true ∧ RestI w S b w.heap.size rs false W) (fun c pre W => (c = .ret ∧ pre.all (fun y => !y) = false) ∧ RestI w S b w.heap.size rs false W) (RestI.own hB0.size) (fun _ => RestI.own hB0.size) ⟨rfl, hI0⟩ ?_ ?_ ?_ ?_ ?_)
    rotate_left
    · intro l y W K hK
      gi_wp2
      exact hK
    · rintro l pre y W ⟨hal, hI⟩ hlen
      have cb := hI.box.cell; have fb := hI.box.thaw
      have HI := hid hI
      have HA := hid hal
      clear hal hI hstops hI0
      cases y with
      | false =>
        have e3 : (((false.toNat : Nat) : Int) != 0) = false := rfl
        gi_wp2
        exact ⟨KeepsOthers.refl _, Kc.refl _ _, by rw [List.all_append, HA.out]; rfl, HI.out⟩
      | true =>
        have e3 : (((true.toNat : Nat) : Int) != 0) = true := rfl
        gi_wp2
        refine ⟨KeepsOthers.setCell _ _ _, ⟨rfl, by rw [List.all_append]; simp⟩, ?_, HI.out.box.set _, HI.out.bel.setCell (p := ⟨w.heap.size, 0, none⟩) (Nat.le_refl _) _⟩
        exact HI.out.rd.keep (S' := fun k => k = w.heap.size) (Fr.setCell (S := fun k => k = w.heap.size) (p := ⟨w.heap.size, 0, none⟩) (Fr.refl _ _) rfl _) (fun k hk e => by have := hS k hk; omega)
    · rintro D zs W hD rfl ⟨hal, hI⟩ hK
      have cb := hI.box.cell; have fb := hI.box.thaw
      have HI := hid hI
      have hrb : restB zs = true := by unfold restB; rw [hal, HR.out, decide_eq_true (by omega)]; rfl
      have HRB := hid hrb
      clear hal hI hstops hI0 hrb
      gi_wp2
      go_wp2_with fail
      rw [HRB.out]
      have hI2 : RestI w S b w.heap.size zs true (W.setCell ⟨w.heap.size, 0, none⟩ (.bool true)) := ⟨HI.out.rd.keep (S' := fun k => k = w.heap.size) (Fr.setCell (S := fun k => k = w.heap.size) (p := ⟨w.heap.size, 0, none⟩) (Fr.refl _ _) rfl _) (fun k hk e => by have := hS k hk; omega), HI.out.box.set _, HI.out.bel.setCell (p := ⟨w.heap.size, 0, none⟩) (Nat.le_refl _) _⟩
      have hK2 : (W.setCell ⟨w.heap.size, 0, none⟩ (.bool true)).heap[D]? = some (.deferred (some [])) := (KeepsOthers.setCell W ⟨w.heap.size, 0, none⟩ _).same D _ hK rfl
      refine leaves_two (v := .bool true) (J := fun w1 => RestI w S b w.heap.size zs true w1) hK2 (fun o => ?_) (fun W' hW' => by simp [results, Try.results34, go_sem, hW'.box.cell]) (fun w1 h => ⟨rfl, h.rd, h.bel⟩)
      exact ((RestI.own (β := Unit) (p := fun _ => True) (B := W0.heap.size) hB0.size).putObj (s := ()) o ⟨trivial, hI2⟩ hD hK2 rfl).2
    · rintro D c pre W hD hsp ⟨⟨rfl, hal⟩, hI⟩ hK
      have hrb : restB rs = false := by
        unfold restB
        rw [Bool.and_eq_false_iff]
        right
        rw [← hal]
        obtain ⟨t, rfl⟩ := hsp
        rw [List.all_append, hal]; rfl
      have HI := hid hI
      have HRB := hid hrb
      clear hstops hI0 hrb hI hal
      gi_wp2
      rw [HRB.out]
      refine leaves_two (v := .bool false) (J := fun w1 => RestI w S b w.heap.size rs false w1) hK (fun o => ?_) (fun W' hW' => by simp [results, Try.results34, go_sem, hW'.box.cell]) (fun w1 h => ⟨rfl, h.rd, h.bel⟩)
      exact ((RestI.own (β := Unit) (p := fun _ => True) (B := W0.heap.size) hB0.size).putObj (s := ()) o ⟨trivial, HI.out⟩ hD hK rfl).2
end Go.Proofs.Ytkmiogaklmgnkaa
