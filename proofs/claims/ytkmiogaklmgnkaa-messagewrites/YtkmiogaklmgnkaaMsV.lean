/- Layer 5 (message): rows of messages that came in; a row of one's own is one that may be read. -/
import Derived.Test.YtkmiogaklmgnkaaMsU
namespace Go.Proofs.Ytkmiogaklmgnkaa
open Go.ChangeShapes Go.WideShapes Go.ChangeAt Go.RowKit Go.Joins
set_option linter.unusedVariables false

theorem mg_map (n : Nat) (f : Nat → Msg) {i : Nat} (h : i < n) : mg ((List.range n).map f) i = f i := by
  unfold mg; rw [List.getD_eq_getElem?_getD, List.getElem?_map, List.getElem?_range h]; rfl
theorem argM_of {H : Type} {enc : TypeId × Value → H} {W : World} {spare : Nat → Bool} {held : Bool} {base fuel : Nat} {a : Option Addr} {len cap : Nat} {d : DataW H} {ps : List MemPlace}
    (hs : ∀ b, spare b = true) (h : DataW.trod enc Try.prog W base spare held fuel 22 (Value.slice a len cap).cells.toList = some (d, ps)) : ∃ (ms : List Msg) (q : Nat → Option Addr × Nat), ms.length = len ∧ ArgM W a cap ms q := by
  have ce : Try.prog.cellsOf 40 = 23 := by kernel_rfl
  rcases Deep.open_slice Try.underlying22 h with ⟨hcs, _⟩ | ⟨x, l, c, m, n, D, Pl, hcs, _, hl, hm, hmm, _, hx⟩
  · simp [Value.cells] at hcs
    obtain ⟨rfl, rfl, rfl⟩ := hcs
    exact ⟨[], fun _ => (none, 0), rfl, ⟨Nat.le_refl _, by unfold maxLen; omega, .inl rfl, (fun i hi => absurd hi (Nat.not_lt_zero i)), fun i hi => absurd hi (Nat.not_lt_zero i)⟩⟩
  · simp [Value.cells] at hcs
    obtain ⟨rfl, rfl, rfl⟩ := hcs
    rw [if_pos (hs _)] at hmm
    have each : ∀ i, ∃ y : Msg × Option Addr × Nat, i < len → (∀ j v, (msgC y.1 (.slice y.2.1 y.1.bytes.length y.2.2))[j]? = some v → W.cell? (x.add (i * 23 + j)) = some v) ∧ MOk y.1 ∧ Arg W y.2.1 y.1.bytes.length y.2.2 fun k => .int .u8 ((y.1.bytes.getD k 0 : Nat) : Int) := by
      intro i
      by_cases hi : i < len
      · obtain ⟨cs', h1, h2⟩ := hx i (by omega)
        rw [ce] at h1
        obtain ⟨_, hlen, hcell⟩ := World.cells?_some h1
        obtain ⟨y, p, c, hy, hok, hb⟩ : ∃ (m : Msg) (p : Option Addr) (cap : Nat), cs'.toArray = msgC m (.slice p m.bytes.length cap) ∧ MOk m ∧ Arg W p m.bytes.length cap fun i => .int .u8 ((m.bytes.getD i 0 : Nat) : Int) := by
          clear hcell h1
          obtain ⟨v0, t0, rfl, l0⟩ := cons_of hlen
          obtain ⟨v1, t1, rfl, l1⟩ := cons_of l0
          obtain ⟨v2, t2, rfl, l2⟩ := cons_of l1
          obtain ⟨v3, t3, rfl, l3⟩ := cons_of l2
          obtain ⟨v4, t4, rfl, l4⟩ := cons_of l3
          obtain ⟨v5, t5, rfl, l5⟩ := cons_of l4
          obtain ⟨v6, t6, rfl, l6⟩ := cons_of l5
          obtain ⟨v7, t7, rfl, l7⟩ := cons_of l6
          obtain ⟨v8, t8, rfl, l8⟩ := cons_of l7
          obtain ⟨v9, t9, rfl, l9⟩ := cons_of l8
          obtain ⟨v10, t10, rfl, l10⟩ := cons_of l9
          obtain ⟨v11, t11, rfl, l11⟩ := cons_of l10
          obtain ⟨v12, t12, rfl, l12⟩ := cons_of l11
          obtain ⟨v13, t13, rfl, l13⟩ := cons_of l12
          obtain ⟨v14, t14, rfl, l14⟩ := cons_of l13
          obtain ⟨v15, t15, rfl, l15⟩ := cons_of l14
          obtain ⟨v16, t16, rfl, l16⟩ := cons_of l15
          obtain ⟨v17, t17, rfl, l17⟩ := cons_of l16
          obtain ⟨v18, t18, rfl, l18⟩ := cons_of l17
          obtain ⟨v19, t19, rfl, l19⟩ := cons_of l18
          obtain ⟨v20, t20, rfl, l20⟩ := cons_of l19
          obtain ⟨v21, t21, rfl, l21⟩ := cons_of l20
          obtain ⟨v22, t22, rfl, l22⟩ := cons_of l21
          obtain rfl := List.length_eq_zero_iff.1 l22
          exact trod_msg hs h2
        refine ⟨(y, p, c), fun _ => ⟨fun j v hv => ?_, hok, hb⟩⟩
        dsimp only at hv
        rw [← hy] at hv
        rw [List.getElem?_toArray] at hv
        have hj := (List.getElem?_eq_some_iff.1 hv).1
        have := hcell j (by omega)
        rw [Deep.add_add] at this
        exact this.trans hv
      · exact ⟨(bare 0, none, 0), fun e => absurd e hi⟩
    refine ⟨(List.range len).map fun i => (each i).choose.1, fun i => (each i).choose.2, by simp, ⟨by simpa using hl, hm, ?_, fun i hi => ?_, fun i hi => ?_⟩⟩
    · by_cases h0 : len = 0
      · exact .inl (by simp [h0])
      · right
        obtain ⟨b, off, spot⟩ := x
        have h1 := ((each 0).choose_spec (by omega)).1 0 _ rfl
        have hspot : spot = none := by simpa [Addr.add] using World.cell?_spot h1
        subst hspot
        refine ⟨b, off, rfl, ?_, fun i hi j v hv => ?_⟩
        · have := World.block_lt_of_cell? _ _ h1; simpa [Addr.add] using this
        · have hi' : i < len := by simpa using hi
          unfold mgC at hv
          rw [mg_map _ _ hi'] at hv
          have := ((each i).choose_spec hi').1 j v hv
          rw [Addr.add_lit] at this
          rw [Nat.add_assoc]; exact this
    · have hi' : i < len := by simpa using hi
      rw [mg_map _ _ hi']
      exact ((each i).choose_spec hi').2.2
    · have hi' : i < len := by simpa using hi
      rw [mg_map _ _ hi']
      exact ((each i).choose_spec hi').2.1
theorem argMsg_of {H : Type} {enc : TypeId × Value → H} {W : World} {spare : Nat → Bool} {held : Bool} {base fuel : Nat} {cs : Array Value} {x : DataW H × List MemPlace}
    (hs : ∀ b, spare b = true) (hz : cs.size = 23) (h : DataW.trod enc Try.prog W base spare held fuel 40 (Value.agg cs).cells.toList = some x) : ∃ (m : Msg) (p : Option Addr) (cap : Nat), cs = msgC m (.slice p m.bytes.length cap) ∧ MOk m ∧ Arg W p m.bytes.length cap fun i => .int .u8 ((m.bytes.getD i 0 : Nat) : Int) := by
  obtain ⟨l⟩ := cs
  have hlen : l.length = 22 + 1 := hz
  have h2 : DataW.trod enc Try.prog W base spare held fuel 40 l = some x := by simpa [Value.cells] using h
  clear h hz
  obtain ⟨v0, t0, rfl, l0⟩ := cons_of hlen
  obtain ⟨v1, t1, rfl, l1⟩ := cons_of l0
  obtain ⟨v2, t2, rfl, l2⟩ := cons_of l1
  obtain ⟨v3, t3, rfl, l3⟩ := cons_of l2
  obtain ⟨v4, t4, rfl, l4⟩ := cons_of l3
  obtain ⟨v5, t5, rfl, l5⟩ := cons_of l4
  obtain ⟨v6, t6, rfl, l6⟩ := cons_of l5
  obtain ⟨v7, t7, rfl, l7⟩ := cons_of l6
  obtain ⟨v8, t8, rfl, l8⟩ := cons_of l7
  obtain ⟨v9, t9, rfl, l9⟩ := cons_of l8
  obtain ⟨v10, t10, rfl, l10⟩ := cons_of l9
  obtain ⟨v11, t11, rfl, l11⟩ := cons_of l10
  obtain ⟨v12, t12, rfl, l12⟩ := cons_of l11
  obtain ⟨v13, t13, rfl, l13⟩ := cons_of l12
  obtain ⟨v14, t14, rfl, l14⟩ := cons_of l13
  obtain ⟨v15, t15, rfl, l15⟩ := cons_of l14
  obtain ⟨v16, t16, rfl, l16⟩ := cons_of l15
  obtain ⟨v17, t17, rfl, l17⟩ := cons_of l16
  obtain ⟨v18, t18, rfl, l18⟩ := cons_of l17
  obtain ⟨v19, t19, rfl, l19⟩ := cons_of l18
  obtain ⟨v20, t20, rfl, l20⟩ := cons_of l19
  obtain ⟨v21, t21, rfl, l21⟩ := cons_of l20
  obtain ⟨v22, t22, rfl, l22⟩ := cons_of l21
  obtain rfl := List.length_eq_zero_iff.1 l22
  exact trod_msg hs h2
theorem msgC_size (m : Msg) (v : Value) : (msgC m v).toList.length = 23 := rfl
theorem fm_len (n : Nat) (f : Nat → List Value) (h : ∀ i, (f i).length = 23) : ((List.range n).flatMap f).length = n * 23 := by
  induction n with
  | zero => rfl
  | succ n ih => rw [List.range_succ, List.flatMap_append, List.length_append, ih]; simp [h]; omega
theorem fm_get (n : Nat) (f : Nat → List Value) (h : ∀ i, (f i).length = 23) {i j : Nat} {v : Value} (hi : i < n) (hv : (f i)[j]? = some v) : ((List.range n).flatMap f)[i * 23 + j]? = some v := by
  have hj : j < 23 := by have := (List.getElem?_eq_some_iff.1 hv).1; rw [h] at this; exact this
  induction n with
  | zero => omega
  | succ n ih =>
    rw [List.range_succ, List.flatMap_append]
    by_cases e : i = n
    · subst e
      rw [List.getElem?_append_right (by rw [fm_len _ _ h]; omega), fm_len _ _ h, Nat.add_sub_cancel_left]
      simpa using hv
    · rw [List.getElem?_append_left (by rw [fm_len _ _ h]; omega)]
      exact ih (by omega)
/-- The address and capacity of a slice. -/
def unq : Value → Option Addr × Nat
  | .slice p _ c => (p, c)
  | _ => (none, 0)
/-- A row of one's own, whose bytes may be read. -/
theorem argM_own {w : World} {B : Nat} {v : Value} {ms : List Msg} {q : Nat → Value} (h : w.ownsRow B 40 23 v ms.length (msCells ms q)) (hq : ∀ i, i < ms.length → ∃ p c, q i = .slice p (mg ms i).bytes.length c ∧ (Arg w p (mg ms i).bytes.length c fun k => .int .u8 (((mg ms i).bytes.getD k 0 : Nat) : Int)) ∧ MOk (mg ms i)) :
    ∃ p cap, v = .slice p ms.length cap ∧ ArgM w p cap ms (fun i => unq (q i)) := by
  have hb : ∀ i, i < ms.length → q i = .slice (unq (q i)).1 (mg ms i).bytes.length (unq (q i)).2 ∧ (Arg w (unq (q i)).1 (mg ms i).bytes.length (unq (q i)).2 fun k => .int .u8 (((mg ms i).bytes.getD k 0 : Nat) : Int)) ∧ MOk (mg ms i) := fun i hi => by
    obtain ⟨p, c, e, h1, h2⟩ := hq i hi
    rw [e]; exact ⟨rfl, h1, h2⟩
  rcases h.2 with ⟨rfl, hl⟩ | ⟨g, cap, cur, rfl, hB, hg, h1, h2, h3, h4⟩
  · exact ⟨none, 0, by rw [hl], ⟨by omega, by unfold maxLen; omega, .inl hl, fun i hi => (hb i hi).2.1, fun i hi => (hb i hi).2.2⟩⟩
  · refine ⟨_, cap, rfl, ⟨h1, h2, .inr ⟨g, 0, rfl, (Array.getElem?_eq_some_iff.1 hg).1, fun i hi j v hv => ?_⟩, fun i hi => (hb i hi).2.1, fun i hi => (hb i hi).2.2⟩⟩
    unfold mgC at hv
    rw [← (hb i hi).1] at hv
    have hj : j < 23 := by have := (Array.getElem?_eq_some_iff.1 hv).1; exact this
    have hm : (msCells ms q)[i * 23 + j]? = some v := fm_get ms.length _ (fun i => rfl) hi (by simpa using hv)
    rw [Nat.zero_add, cell_of_row w g _ cur 40 (0, 0) hg]
    rw [← h4, List.getElem?_take_of_lt (by omega)] at hm
    simpa using hm
theorem MsAt.argM {w : World} {B : Nat} {X : Nat → Prop} {v : Value} {ms : List Msg} {q : Nat → Value} (h : MsAt w B X v ms q) : ∃ p cap, v = .slice p ms.length cap ∧ ArgM w p cap ms (fun i => unq (q i)) :=
  argM_own h.own (fun i hi => by obtain ⟨p, c, e, ha⟩ := (h.rows i hi).arg; exact ⟨p, c, e, ha, (h.ok i hi).1⟩)
end Go.Proofs.Ytkmiogaklmgnkaa
