/- Layer 5 (message): the document's reader: take, number, signed, must. -/
import Derived.Test.YtneaanmchachlaaBtS
import Derived.Test.YtneaanmchachlaaMsB
import Derived.Test.YtneaanmchachlaaMsN
namespace Go.Proofs.Ytneaanmchachlaa
open Go.RowKit Go.Shelf
set_option linter.unusedVariables false
set_option linter.unusedSimpArgs false
attribute [local go_sem ↓] Go.wp_at_zero Go.wp_at_succ

/-- The document's reader: the bits that are left, as long as nothing is wrong; what is wrong. -/
structure RX (w : World) (b : Nat) (t : List Bool × Int) : Prop where
  at_ : ∃ l : List Bool, Bq w b 81 #[.string (txt l), .int .i64 t.2] ∧ (t.2 = 0 → l = t.1) ∧ l.length ≤ 20000
theorem RX.fr {w w' : World} {b : Nat} {t : List Bool × Int} {S : Nat → Prop} (h : RX w b t) (hf : Fr S w w') (hb : ¬ S b) : RX w' b t := by
  obtain ⟨l, h1, h2⟩ := h.at_
  exact ⟨l, h1.same (hf.block b h1.lt hb), h2⟩
theorem RX.below {w w' : World} {b : Nat} {t : List Bool × Int} (h : RX w b t) (hf : Below w.heap.size w w') : RX w' b t := h.fr (S := fun _ => False) (Fr.of_below _ hf) (fun e => e)
theorem RX.lt {w : World} {b : Nat} {t : List Bool × Int} (h : RX w b t) : b < w.heap.size := by obtain ⟨l, h1, _⟩ := h.at_; exact h1.lt
theorem RX.err {w : World} {b : Nat} {t : List Bool × Int} (h : RX w b t) : w.cell? ⟨b, 1, none⟩ = some (.int .i64 t.2) := by obtain ⟨l, h1, _⟩ := h.at_; exact h1.cell rfl
def tk (t : List Bool × Int) (n : Nat) : List Bool × Int := if t.2 = 0 then (if n ≤ t.1.length then (t.1.drop n, 0) else ([], 2)) else t
def tkv (t : List Bool × Int) (n : Nat) : List Bool := if t.2 = 0 ∧ n ≤ t.1.length then t.1.take n else []
def mst (t : List Bool × Int) (ok : Bool) : List Bool × Int := if ok = false ∧ t.2 = 0 then (t.1, 3) else t
theorem tkv_len (t : List Bool × Int) (n : Nat) : (tkv t n).length ≤ n := by
  unfold tkv; split
  · rw [List.length_take]; omega
  · simp
/-- A number is read, and looked at. -/
theorem ask_is (s : Bool) (t : List Bool × Int) (n : Int) (r : Rm) : mst (tk t r.bits) (decide (r.has (Pg.rdx s (tkv t r.bits)))) = (Pg.rdS s t n r).2 ∧ ((Pg.rdS s t n r).2.2 = 0 → Pg.rdx s (tkv t r.bits) = (Pg.rdS s t n r).1) := by
  unfold Pg.rdS tk tkv mst
  by_cases h0 : t.2 = 0
  · by_cases h1 : r.bits ≤ t.1.length
    · simp only [h0, h1, and_self, if_true]
      by_cases h2 : r.has (Pg.rdx s (t.1.take r.bits))
      · simp [h2]
      · simp [h2]
    · simp [h0, h1]
  · simp [h0]
/-- A number is read that may be whatever it is. -/
theorem ask_any (s : Bool) (t : List Bool × Int) (n : Int) (r : Rm) (hr : ∀ l : List Bool, l.length = r.bits → r.has (Pg.rdx s l)) : tk t r.bits = (Pg.rdS s t n r).2 ∧ ((Pg.rdS s t n r).2.2 = 0 → Pg.rdx s (tkv t r.bits) = (Pg.rdS s t n r).1) := by
  unfold Pg.rdS tk tkv
  by_cases h0 : t.2 = 0
  · by_cases h1 : r.bits ≤ t.1.length
    · have h2 := hr (t.1.take r.bits) (by rw [List.length_take]; omega)
      simp [h0, h1, h2]
    · simp [h0, h1]
  · simp [h0]
set_option maxRecDepth 100000 in
set_option maxHeartbeats 1000000 in
theorem takeX {w : World} {b : Nat} {t : List Bool × Int} (h : RX w b t) (n : Nat) (hn : n ≤ 64) :
    Calls Try.prog 60 #[.pointer (some ⟨b, 0, none⟩), .int .i64 (n : Int)] w fun e w' => e = .returned (.string (txt (tkv t n))) ∧ RX w' b (tk t n) ∧ Fr (fun k => k = b) w w' := by
  obtain ⟨l, h1, h2, h3⟩ := h.at_
  obtain ⟨ts, te⟩ := t
  dsimp only at h1 h2
  have c0 := h1.cell (i := 0) rfl; have c1 := h1.cell (i := 1) rfl
  have f0 := h1.thaw 0; have f1 := h1.thaw 1
  have hsz := txt_size l
  have H1 := hid h1
  unfold tk tkv
  by_cases he : te = 0
  · subst he
    obtain rfl : l = ts := h2 rfl
    by_cases hs : n ≤ l.length
    · simp only [hs, and_self, if_true]
      have e1 := txt_extract l 0 n
      have e2 := txt_extract l n l.length
      rw [List.drop_zero, Nat.sub_zero] at e1
      rw [List.take_of_length_le (by simp)] at e2
      have e3 := (H1.out.set 0 (.string (txt (l.drop n))))
      have E3 := hid e3
      have i1 : ¬ (l.length : Int) < (n : Int) := by omega
      have hl3 : (l.drop n).length ≤ 20000 := by rw [List.length_drop]; omega
      obtain ⟨T, hT⟩ : ∃ T, txt l = T := ⟨_, rfl⟩
      obtain ⟨A, hA⟩ : ∃ A, txt (l.take n) = A := ⟨_, rfl⟩
      obtain ⟨D, hD⟩ : ∃ D, txt (l.drop n) = D := ⟨_, rfl⟩
      rw [hT] at c0 e1 e2 hsz
      rw [hA] at e1 ⊢
      rw [hD] at e2 E3
      have HD := hid hD
      have hns : (n : Int) ≤ (T.size : Int) := by omega
      clear h1 h2 h hT hA hD e3
      go_enter Try.func60, Try.ntmps60
      go_wp2_with fail
      go_ret
      refine ⟨rfl, ⟨l.drop n, ?_, fun _ => rfl, hl3⟩, Fr.setCell (S := fun k => k = b) (p := ⟨b, 0, none⟩) (Fr.refl _ _) rfl _⟩
      rw [HD.out]
      exact E3.out
    · simp only [hs, and_false, if_true, if_false]
      have i1 : (l.length : Int) < (n : Int) := by omega
      have E3 := hid (H1.out.set 1 (.int .i64 2))
      rw [hsz.symm] at i1
      clear h1 h2 h
      go_enter Try.func60, Try.ntmps60
      go_wp2_with fail
      go_ret
      exact ⟨rfl, ⟨l, E3.out, (fun e => by cases e), h3⟩, Fr.setCell (S := fun k => k = b) (p := ⟨b, 1, none⟩) (Fr.refl _ _) rfl _⟩
  · simp only [he, false_and, if_false]
    have i1 : (te == 0) = false := beq_eq_false_iff_ne.2 he
    have i2 : (te != 0) = true := by simp [he]
    clear h1 h2 h
    go_enter Try.func60, Try.ntmps60
    go_wp2_with fail
    go_ret
    exact ⟨rfl, ⟨l, H1.out, fun e => absurd e he, h3⟩, Fr.refl _ _⟩
theorem val_small (l : List Bool) (n : Nat) (hl : l.length ≤ n) (hn : n ≤ 62) : (val l : Nat) < 4611686018427387904 := by
  have h1 := val_lt l
  have h2 : 2 ^ l.length ≤ 2 ^ 62 := Nat.pow_le_pow_right (by decide) (by omega)
  omega
set_option maxRecDepth 100000 in
theorem numberX {w : World} {b : Nat} {t : List Bool × Int} (h : RX w b t) (n : Nat) (hn : n ≤ 62) :
    Calls Try.prog 36 #[.pointer (some ⟨b, 0, none⟩), .int .i64 (n : Int)] w fun e w' => e = .returned (.int .i64 (Pg.rdx false (tkv t n))) ∧ RX w' b (tk t n) ∧ Fr (fun k => k = b) w w' := by
  have ht := takeX h n (by omega)
  have hv := val_small (tkv t n) n (tkv_len t n) hn
  have hnm := fun W => refNumber (tkv t n) W (by have := tkv_len t n; omega)
  have e : Pg.rdx false (tkv t n) = (val (tkv t n) : Nat) := rfl
  rw [e]
  obtain ⟨v, hvv⟩ : ∃ v, val (tkv t n) = v := ⟨_, rfl⟩
  obtain ⟨T, hT⟩ : ∃ T, txt (tkv t n) = T := ⟨_, rfl⟩
  rw [hvv] at hv hnm ⊢
  rw [hT] at ht hnm
  have hw : IntKind.i64.wrap (v : Int) = (v : Int) := wrap_i64 (by omega) (by omega)
  clear hvv hT e h
  go_enter Try.func36, Try.ntmps36
  go_wp2_with fail
  refine ht.mono ?_; rintro e w1 ⟨rfl, h1, f1⟩
  have H1 := hid h1; have F1 := hid f1
  have hn1 := hnm w1
  clear ht h1 f1 hnm
  go_wp2_with fail
  refine hn1.mono ?_; rintro e w2 ⟨rfl, hw2⟩
  rw [hw2]
  clear hw2 w2 hn1
  go_wp2_with fail
  go_ret
  exact ⟨rfl, H1.out, F1.out⟩
set_option maxRecDepth 100000 in
theorem signedX {w : World} {b : Nat} {t : List Bool × Int} (h : RX w b t) (n : Nat) (hn : n ≤ 62) :
    Calls Try.prog 62 #[.pointer (some ⟨b, 0, none⟩), .int .i64 (n : Int)] w fun e w' => e = .returned (.int .i64 (Pg.rdx true (tkv t n))) ∧ RX w' b (tk t n) ∧ Fr (fun k => k = b) w w' := by
  have ht := takeX h n (by omega)
  have hnm := fun W => refSigned (tkv t n) W (by have := tkv_len t n; omega)
  have e : Pg.rdx true (tkv t n) = sgn (tkv t n) := rfl
  rw [e]
  obtain ⟨v, hvv⟩ : ∃ v, sgn (tkv t n) = v := ⟨_, rfl⟩
  obtain ⟨T, hT⟩ : ∃ T, txt (tkv t n) = T := ⟨_, rfl⟩
  rw [hvv] at hnm ⊢
  rw [hT] at ht hnm
  clear hvv hT e h
  go_enter Try.func62, Try.ntmps62
  go_wp2_with fail
  refine ht.mono ?_; rintro e w1 ⟨rfl, h1, f1⟩
  have H1 := hid h1; have F1 := hid f1
  have hn1 := hnm w1
  clear ht h1 f1 hnm
  go_wp2_with fail
  refine hn1.mono ?_; rintro e w2 ⟨rfl, hw2⟩
  rw [hw2]
  clear hw2 w2 hn1
  go_wp2_with fail
  go_ret
  exact ⟨rfl, H1.out, F1.out⟩
set_option maxRecDepth 100000 in
theorem mustX {w : World} {b : Nat} {t : List Bool × Int} (h : RX w b t) (ok : Bool) :
    Calls Try.prog 37 #[.pointer (some ⟨b, 0, none⟩), .bool ok] w fun e w' => e = .returned (.tuple #[]) ∧ RX w' b (mst t ok) ∧ Fr (fun k => k = b) w w' := by
  obtain ⟨l, h1, h2, h3⟩ := h.at_
  obtain ⟨ts, te⟩ := t
  dsimp only at h1 h2
  have c1 := h1.cell (i := 1) rfl
  have f1 := h1.thaw 1
  have H1 := hid h1
  unfold mst
  cases ok with
  | true =>
    simp only [Bool.true_eq_false, false_and, if_false]
    clear h1
    go_enter Try.func37, Try.ntmps37
    go_wp2_with fail
    go_returns
    exact ⟨rfl, ⟨l, H1.out, h2, h3⟩, Fr.refl _ _⟩
  | false =>
    by_cases he : te = 0
    · subst he
      simp only [and_self, if_true]
      have E3 := hid (H1.out.set 1 (.int .i64 3))
      clear h1
      go_enter Try.func37, Try.ntmps37
      go_wp2_with fail
      go_returns
      exact ⟨rfl, ⟨l, E3.out, (fun e => by cases e), h3⟩, Fr.setCell (S := fun k => k = b) (p := ⟨b, 1, none⟩) (Fr.refl _ _) rfl _⟩
    · simp only [he, and_false, if_false]
      have i1 : (te == 0) = false := beq_eq_false_iff_ne.2 he
      clear h1
      go_enter Try.func37, Try.ntmps37
      go_wp2_with fail
      go_returns
      exact ⟨rfl, ⟨l, H1.out, h2, h3⟩, Fr.refl _ _⟩
open Go.RowKit Go.Shelf
set_option linter.unusedVariables false
set_option linter.unusedSimpArgs false
attribute [local go_sem ↓] Go.wp_at_zero Go.wp_at_succ

/-- The reader, the box of the answer, and a box that is new. -/
structure RM (T : TypeId) (z : Array Value) (w : World) (b : Nat) (t : List Bool × Int) (c : Array Value) (w' : World) : Prop where
  rx : RX w' b t
  ax : Bq w' w.heap.size T z
  bx : Bq w' (w.heap.size + 1) T c
  fr : Fr (fun k => k = b) w w'
  hb : b < w.heap.size
theorem Fr.setB {S : Nat → Prop} {w w' : World} (h : Fr S w w') {g : Nat} (hg : w.heap.size ≤ g) (i : Nat) (u : Value) : Fr S w (w'.setCell ⟨g, i, none⟩ u) :=
  ⟨h.os, h.tape, h.output, by simpa [World.setCell] using h.size, fun k hk hS => (Below.heap_setCell _ _ _ _ (fun (e : k = g) => by omega)).trans (h.block k hk hS)⟩
theorem RM.start (T : TypeId) (z : Array Value) {w : World} {b : Nat} {t : List Bool × Int} (h : RX w b t) : RM T z w b t z ((w.alloc (.cells z T)).alloc (.cells z T)) := by
  have e : (w.alloc (.cells z T)).heap.size = w.heap.size + 1 := by simp
  have h2 := Bq.new (w.alloc (.cells z T)) T z
  rw [e] at h2
  have hb : Below w.heap.size w ((w.alloc (.cells z T)).alloc (.cells z T)) := ((Below.refl _ _).alloc (Nat.le_refl _) _).alloc (by simp) _
  exact ⟨h.below hb, (Bq.new w T z).alloc _, h2, Fr.of_below _ hb, h.lt⟩
theorem RM.call {T : TypeId} {z : Array Value} {w : World} {b : Nat} {t t2 : List Bool × Int} {c : Array Value} {w' : World} (h : RM T z w b t c w') {F : FuncId} {args : Array Value} {R : Ending → Prop}
    (hc : RX w' b t → Calls Try.prog F args w' fun e w'' => R e ∧ RX w'' b t2 ∧ Fr (fun k => k = b) w' w'') : Calls Try.prog F args w' fun e w'' => R e ∧ RM T z w b t2 c w'' := by
  refine (hc h.rx).mono ?_
  rintro e w'' ⟨hR, h2, hf⟩
  have := h.hb
  exact ⟨hR, h2, h.ax.same (hf.block _ h.ax.lt (by omega)), h.bx.same (hf.block _ h.bx.lt (by omega)), h.fr.trans hf (fun _ _ e => e), h.hb⟩
theorem RM.set {T : TypeId} {z : Array Value} {w : World} {b : Nat} {t : List Bool × Int} {c : Array Value} {w' : World} (h : RM T z w b t c w') (i : Nat) (u : Value) : RM T z w b t (c.setIfInBounds i u) (w'.setCell ⟨w.heap.size + 1, i, none⟩ u) := by
  have := h.hb
  exact ⟨h.rx.fr (S := fun k => k = w.heap.size + 1) (Fr.setCell (S := fun k => k = w.heap.size + 1) (p := ⟨w.heap.size + 1, i, none⟩) (Fr.refl _ _) rfl u) (by omega), h.ax.other (by omega) u, h.bx.set i u, h.fr.setB (by omega) i u, h.hb⟩
theorem RM.sub {T : TypeId} {z : Array Value} {w : World} {b : Nat} {t t2 : List Bool × Int} {c : Array Value} {w' : World} (h : RM T z w b t c w') (e : t = t2) : RM T z w b t2 c w' := by subst e; exact h
theorem rdS_zero {s : Bool} {t : List Bool × Int} {n : Int} {r : Rm} (h : (Pg.rdS s t n r).2.2 = 0) : t.2 = 0 := by
  unfold Pg.rdS at h
  by_cases h0 : t.2 = 0
  · exact h0
  · simp only [h0, if_false] at h
theorem tkv_err {t : List Bool × Int} (h : t.2 ≠ 0) (n : Nat) : tkv t n = [] := by unfold tkv; rw [if_neg (fun e => h e.1)]
theorem mst_true (t : List Bool × Int) : mst t true = t := by unfold mst; simp
theorem has_uns (l : List Bool) (k : Nat) (hk : k ≤ 62) (hl : l.length = k) : (⟨k, 0, 2 ^ k - 1, hk⟩ : Rm).has (Pg.rdx false l) := by
  have := val_lt l
  rw [hl] at this
  refine ⟨?_, ?_⟩
  · show (0 : Int) ≤ ((val l : Nat) : Int); omega
  · show ((val l : Nat) : Int) ≤ 2 ^ k - 1
    have : ((val l : Nat) : Int) < ((2 ^ k : Nat) : Int) := by exact_mod_cast this
    push_cast at this
    omega
theorem has_sgd (l : List Bool) (k : Nat) (hk : k ≤ 62) (h1 : 1 ≤ k) (hl : l.length = k) : (⟨k, -2 ^ (k - 1), 2 ^ (k - 1) - 1, hk⟩ : Rm).has (Pg.rdx true l) := by
  have hv := val_lt l
  have e2 : ∀ j : Nat, ((2 : Int) ^ j) = ((2 ^ j : Nat) : Int) := fun j => by push_cast; rfl
  have hp : 2 ^ k = 2 * 2 ^ (k - 1) := by
    obtain ⟨j, rfl⟩ : ∃ j, k = j + 1 := ⟨k - 1, by omega⟩
    rw [Nat.pow_succ, Nat.add_sub_cancel]; omega
  have key : -2 ^ (k - 1) ≤ sgn l ∧ sgn l ≤ 2 ^ (k - 1) - 1 := by
    cases hh : l.head? with
    | none => have : l = [] := by simpa using hh
              subst this; simp at hl; omega
    | some b =>
      cases b with
      | false =>
        have h2 := val_head_false hh
        rw [sgn_false (by rw [hh]; simp), e2]
        rw [hl] at h2
        omega
      | true =>
        have h2 := val_head_true hh
        rw [sgn_true hh, hl, e2, e2, hp]
        rw [hl] at h2 hv
        rw [hp] at hv
        generalize 2 ^ (k - 1) = P at *
        omega
  exact key
set_option maxRecDepth 100000 in
set_option maxHeartbeats 2000000 in
theorem idX {w : World} {b : Nat} {t : List Bool × Int} (h : RX w b t) :
    Calls Try.prog 64 #[.pointer (some ⟨b, 0, none⟩)] w fun e w' => e = .returned (.int .i64 (Pg.rdx false (tkv t 31))) ∧ RX w' b (Pg.rdS false t 0 rID).2 ∧ Fr (fun k => k = b) w w' := by
  have hn := numberX h 31 (by omega)
  have hask := (ask_is false t 0 rID).1
  have hv : Pg.rdx false (tkv t 31) = ((val (tkv t 31) : Nat) : Int) := rfl
  have hlt := val_lt (tkv t 31)
  have hl2 : 2 ^ (tkv t 31).length ≤ 2 ^ 31 := Nat.pow_le_pow_right (by decide) (tkv_len t 31)
  have hd : decide (rID.has (Pg.rdx false (tkv t 31))) = decide ((0 : Int) < Pg.rdx false (tkv t 31)) := by
    congr 1
    rw [hv]
    exact propext ⟨fun e => by have : (1 : Int) ≤ _ := e.1; omega, fun e => ⟨show (1 : Int) ≤ _ by omega, show _ ≤ (2147483647 : Int) by omega⟩⟩
  rw [hd] at hask
  have hask' : mst (tk t 31) (decide ((0 : Int) < Pg.rdx false (tkv t 31))) = (Pg.rdS false t 0 rID).2 := hask
  obtain ⟨y, hy⟩ : ∃ y, Pg.rdx false (tkv t 31) = y := ⟨_, rfl⟩
  rw [hy] at hn hask' ⊢
  have HK := hid hask'
  clear hask hask' hd hlt hl2 hv hy h
  go_enter Try.func64, Try.ntmps64
  go_wp2_with fail
  refine hn.mono ?_; rintro e w1 ⟨rfl, h1, f1⟩
  have hm := mustX h1 (decide ((0 : Int) < y))
  have F1 := hid f1
  clear hn h1 f1
  go_wp2_with fail
  refine hm.mono ?_; rintro e w2 ⟨rfl, h2, f2⟩
  have H2 := hid h2; have F2 := hid (F1.out.trans f2 (fun _ _ e => e))
  clear hm h2 f2
  go_wp2_with fail
  go_ret
  refine ⟨rfl, ?_, F2.out⟩
  rw [← HK.out]; exact H2.out
set_option maxRecDepth 100000 in
set_option maxHeartbeats 1000000 in
/-- Three numbers that may be whatever they are. -/
theorem vecFree {w : World} {b : Nat} {t : List Bool × Int} (h : RX w b t) :
    Calls Try.prog 63 #[.pointer (some ⟨b, 0, none⟩), .int .i64 32, .int .i64 (-1)] w fun e w' => e = .returned (.agg #[.int .i64 (Pg.rdx true (tkv t 32)), .int .i64 (Pg.rdx true (tkv (tk t 32) 32)), .int .i64 (Pg.rdx true (tkv (tk (tk t 32) 32) 32))]) ∧ RX w' b (tk (tk (tk t 32) 32) 32) ∧ Fr (fun k => k = b) w w' := by
  have hM := RM.start 37 #[.int .i64 0, .int .i64 0, .int .i64 0] h
  have HM := hid hM
  clear hM h
  go_enter Try.func63, Try.ntmps63
  go_wp2_with fail
  refine (HM.out.call (fun h => signedX h 32 (by omega))).mono ?_; rintro e w1 ⟨rfl, hM⟩
  have t0 := hM.bx.cell (i := 0) rfl
  have f0 := hM.bx.thaw 0
  obtain ⟨y0, hy0⟩ : ∃ y, Pg.rdx true (tkv t 32) = y := ⟨_, rfl⟩
  rw [hy0]
  have HY0 := hid hy0
  have hM2 := hM.set 0 (.int .i64 y0)
  simp only [List.setIfInBounds_toArray, List.set_cons_zero, List.set_cons_succ] at hM2
  have HM2 := hid hM2
  clear hM hM2 HM hy0
  go_wp2_with fail
  clear t0 f0
  refine (HM2.out.call (fun h => mustX h true)).mono ?_; rintro e w2 ⟨rfl, hM⟩
  rw [mst_true] at hM
  have HM := hid hM
  clear hM HM2
  go_wp2_with fail
  refine (HM.out.call (fun h => signedX h 32 (by omega))).mono ?_; rintro e w3 ⟨rfl, hM⟩
  have t0 := hM.bx.cell (i := 1) rfl
  have f0 := hM.bx.thaw 1
  obtain ⟨y1, hy1⟩ : ∃ y, Pg.rdx true (tkv (tk t 32) 32) = y := ⟨_, rfl⟩
  rw [hy1]
  have HY1 := hid hy1
  have hM2 := hM.set 1 (.int .i64 y1)
  simp only [List.setIfInBounds_toArray, List.set_cons_zero, List.set_cons_succ] at hM2
  have HM2 := hid hM2
  clear hM hM2 HM hy1
  go_wp2_with fail
  clear t0 f0
  refine (HM2.out.call (fun h => mustX h true)).mono ?_; rintro e w4 ⟨rfl, hM⟩
  rw [mst_true] at hM
  have HM := hid hM
  clear hM HM2
  go_wp2_with fail
  refine (HM.out.call (fun h => signedX h 32 (by omega))).mono ?_; rintro e w5 ⟨rfl, hM⟩
  have t0 := hM.bx.cell (i := 2) rfl
  have f0 := hM.bx.thaw 2
  obtain ⟨y2, hy2⟩ : ∃ y, Pg.rdx true (tkv (tk (tk t 32) 32) 32) = y := ⟨_, rfl⟩
  rw [hy2]
  have HY2 := hid hy2
  have hM2 := hM.set 2 (.int .i64 y2)
  simp only [List.setIfInBounds_toArray, List.set_cons_zero, List.set_cons_succ] at hM2
  have HM2 := hid hM2
  clear hM hM2 HM hy2
  go_wp2_with fail
  clear t0 f0
  refine (HM2.out.call (fun h => mustX h true)).mono ?_; rintro e w6 ⟨rfl, hM⟩
  rw [mst_true] at hM
  have HM := hid hM
  clear hM HM2
  have a0 := HM.out.ax.cell (i := 0) rfl; have a1 := HM.out.ax.cell (i := 1) rfl; have a2 := HM.out.ax.cell (i := 2) rfl
  have e0 := HM.out.bx.cell (i := 0) rfl; have e1 := HM.out.bx.cell (i := 1) rfl; have e2 := HM.out.bx.cell (i := 2) rfl
  have z0 := HM.out.ax.thaw 0; have z1 := HM.out.ax.thaw 1; have z2 := HM.out.ax.thaw 2
  go_wp2_with fail
  have A3 := ((HM.out.ax.set 0 (.int .i64 y0)).set 1 (.int .i64 y1)).set 2 (.int .i64 y2)
  simp only [List.setIfInBounds_toArray, List.set_cons_zero, List.set_cons_succ] at A3
  have F3 : Fr (fun k => k = w.heap.size) w6 (((w6.setCell ⟨w.heap.size, 0, none⟩ (.int .i64 y0)).setCell ⟨w.heap.size, 1, none⟩ (.int .i64 y1)).setCell ⟨w.heap.size, 2, none⟩ (.int .i64 y2)) :=
    ((Fr.setCell (S := fun k => k = w.heap.size) (p := ⟨w.heap.size, 0, none⟩) (Fr.refl _ _) rfl _).setCell (p := ⟨w.heap.size, 1, none⟩) rfl _).setCell (p := ⟨w.heap.size, 2, none⟩) rfl _
  have hb := HM.out.hb
  have hR := HM.out.rx.fr F3 (by omega)
  have hF := ((HM.out.fr.setB (g := w.heap.size) (Nat.le_refl _) 0 (.int .i64 y0)).setB (g := w.heap.size) (Nat.le_refl _) 1 (.int .i64 y1)).setB (g := w.heap.size) (Nat.le_refl _) 2 (.int .i64 y2)
  clear a0 a1 a2 e0 e1 e2 z0 z1 z2 F3
  generalize ((w6.setCell ⟨w.heap.size, 0, none⟩ (.int .i64 y0)).setCell ⟨w.heap.size, 1, none⟩ (.int .i64 y1)).setCell ⟨w.heap.size, 2, none⟩ (.int .i64 y2) = W at *
  have q0 := A3.cell (i := 0) rfl; have q1 := A3.cell (i := 1) rfl; have q2 := A3.cell (i := 2) rfl
  have HR := hid hR; have HF := hid hF
  clear hR hF A3 hb
  refine bodyPost_ret (by simp [results, Try.results63, go_sem, q0, q1, q2]; try rfl) rfl ?_
  rw [HY0.out, HY1.out, HY2.out]
  exact ⟨rfl, HR.out, HF.out⟩
open Go.RowKit Go.Shelf
set_option linter.unusedVariables false
set_option linter.unusedSimpArgs false
attribute [local go_sem ↓] Go.wp_at_zero Go.wp_at_succ

theorem tk_err {t : List Bool × Int} (h : t.2 ≠ 0) (n : Nat) : tk t n = t := by unfold tk; rw [if_neg h]
theorem rdS_err {t : List Bool × Int} (h : t.2 ≠ 0) (s : Bool) (n : Int) (r : Rm) : Pg.rdS s t n r = (0, t) := by unfold Pg.rdS; rw [if_neg h]
theorem mst_false (t : List Bool × Int) : (mst t false).2 ≠ 0 := by
  unfold mst
  by_cases h : t.2 = 0
  · simp [h]
  · simp [h]
/-- Three numbers are told as they are read, as long as nothing is wrong. -/
structure VX (w : World) (b : Nat) (t : List Bool × Int) (r : Rm) (y0 y1 y2 : Int) (w' : World) : Prop where
  rx : RX w' b ((vecP v0 r).run Pg.rdS t).2
  val : ((vecP v0 r).run Pg.rdS t).2.2 = 0 → ((vecP v0 r).run Pg.rdS t).1 = ⟨y0, y1, y2⟩
  fr : Fr (fun k => k = b) w w'
theorem VX.of {w w' : World} {b : Nat} {t s1 s2 s3 : List Bool × Int} {r : Rm} {y0 y1 y2 : Int} (e1 : (Pg.rdS true t 0 r).2 = s1) (e2 : (Pg.rdS true s1 0 r).2 = s2) (e3 : (Pg.rdS true s2 0 r).2 = s3)
    (v1 : s1.2 = 0 → y0 = (Pg.rdS true t 0 r).1) (v2 : s2.2 = 0 → y1 = (Pg.rdS true s1 0 r).1) (v3 : s3.2 = 0 → y2 = (Pg.rdS true s2 0 r).1) (h : RX w' b s3) (f : Fr (fun k => k = b) w w') : VX w b t r y0 y1 y2 w' := by
  subst e1; subst e2; subst e3
  refine ⟨h, fun h0 => ?_, f⟩
  have h2 := rdS_zero h0
  have h1 := rdS_zero h2
  rw [v1 h1, v2 h2, v3 h0]
  rfl
theorem vecFreeX {w : World} {b : Nat} {t : List Bool × Int} (h : RX w b t) :
    Calls Try.prog 63 #[.pointer (some ⟨b, 0, none⟩), .int .i64 32, .int .i64 (-1)] w fun e w' => ∃ y0 y1 y2, e = .returned (.agg #[.int .i64 y0, .int .i64 y1, .int .i64 y2]) ∧ VX w b t (sgd 32) y0 y1 y2 w' := by
  refine (vecFree h).mono ?_
  rintro e w' ⟨rfl, h', f⟩
  have a := fun s => ask_any true s 0 (sgd 32) (fun l hl => has_sgd l 32 (by omega) (by omega) hl)
  exact ⟨_, _, _, rfl, VX.of (a t).1.symm (a _).1.symm (a _).1.symm (fun e => (a t).2 (by rw [← (a t).1]; exact e)) (fun e => (a _).2 (by rw [← (a _).1]; exact e)) (fun e => (a _).2 (by rw [← (a _).1]; exact e)) h' f⟩
theorem has_dir (y : Int) : rDir.has y ↔ -65536 ≤ y ∧ y ≤ 65536 := Iff.rfl
set_option maxRecDepth 100000 in
set_option maxHeartbeats 8000000 in
theorem vecDirX {w : World} {b : Nat} {t : List Bool × Int} (h : RX w b t) :
    Calls Try.prog 63 #[.pointer (some ⟨b, 0, none⟩), .int .i64 18, .int .i64 65536] w fun e w' => ∃ y0 y1 y2, e = .returned (.agg #[.int .i64 y0, .int .i64 y1, .int .i64 y2]) ∧ VX w b t rDir y0 y1 y2 w' := by
  have hM := RM.start 37 #[.int .i64 0, .int .i64 0, .int .i64 0] h
  have HM := hid hM
  clear hM h
  go_enter Try.func63, Try.ntmps63
  go_wp2_with fail
  refine (HM.out.call (fun h => signedX h 18 (by omega))).mono ?_; rintro e wa1 ⟨rfl, hM⟩
  have t0 := hM.bx.cell (i := 0) rfl
  have f0 := hM.bx.thaw 0
  have hk : mst (tk t 18) (decide (rDir.has (Pg.rdx true (tkv t 18)))) = (Pg.rdS true t 0 rDir).2 ∧ ((Pg.rdS true t 0 rDir).2.2 = 0 → Pg.rdx true (tkv t 18) = (Pg.rdS true t 0 rDir).1) := ask_is true t 0 rDir
  obtain ⟨y0, hy⟩ : ∃ y, Pg.rdx true (tkv t 18) = y := ⟨_, rfl⟩
  obtain ⟨s1, hs⟩ : ∃ q, (Pg.rdS true t 0 rDir).2 = q := ⟨_, rfl⟩
  rw [hy, hs] at hk
  rw [hy]
  have HY0 := hid hs; have HV0 := hid hk.2; have HK := hid hk.1
  have hM2 := hM.set 0 (.int .i64 y0)
  simp only [List.setIfInBounds_toArray, List.set_cons_zero, List.set_cons_succ] at hM2
  have HM2 := hid hM2
  clear hM hM2 HM hy hs hk
  have p0 := (HM2.out.bx.cell (i := 0) rfl)
  rcases (show (-65536 ≤ y0 ∧ y0 ≤ 65536) ∨ 65536 < y0 ∨ y0 < -65536 by omega) with hc | hc | hc
  ·
    have hd : decide (rDir.has y0) = true := decide_eq_true ((has_dir _).2 (by omega))
    have p1 : y0 ≤ 65536 := by omega
    have p2 : -65536 ≤ y0 := by omega
    have hk2 := HK.out
    rw [hd] at hk2
    have HK2 := hid hk2
    clear HK hk2 hd hc
    go_wp2_with fail
    clear p0 f0 t0
    refine (HM2.out.call (fun h => mustX h _)).mono ?_; rintro e wb1 ⟨rfl, hM⟩
    rw [HK2.out] at hM
    have HM := hid hM
    clear hM HM2 HK2
    clear p1 p2
    go_wp2_with fail
    refine (HM.out.call (fun h => signedX h 18 (by omega))).mono ?_; rintro e wa2 ⟨rfl, hM⟩
    have t0 := hM.bx.cell (i := 1) rfl
    have f0 := hM.bx.thaw 1
    have hk : mst (tk s1 18) (decide (rDir.has (Pg.rdx true (tkv s1 18)))) = (Pg.rdS true s1 0 rDir).2 ∧ ((Pg.rdS true s1 0 rDir).2.2 = 0 → Pg.rdx true (tkv s1 18) = (Pg.rdS true s1 0 rDir).1) := ask_is true s1 0 rDir
    obtain ⟨y1, hy⟩ : ∃ y, Pg.rdx true (tkv s1 18) = y := ⟨_, rfl⟩
    obtain ⟨s2, hs⟩ : ∃ q, (Pg.rdS true s1 0 rDir).2 = q := ⟨_, rfl⟩
    rw [hy, hs] at hk
    rw [hy]
    have HY1 := hid hs; have HV1 := hid hk.2; have HK := hid hk.1
    have hM2 := hM.set 1 (.int .i64 y1)
    simp only [List.setIfInBounds_toArray, List.set_cons_zero, List.set_cons_succ] at hM2
    have HM2 := hid hM2
    clear hM hM2 HM hy hs hk
    have p0 := (HM2.out.bx.cell (i := 1) rfl)
    rcases (show (-65536 ≤ y1 ∧ y1 ≤ 65536) ∨ 65536 < y1 ∨ y1 < -65536 by omega) with hc | hc | hc
    ·
      have hd : decide (rDir.has y1) = true := decide_eq_true ((has_dir _).2 (by omega))
      have p1 : y1 ≤ 65536 := by omega
      have p2 : -65536 ≤ y1 := by omega
      have hk2 := HK.out
      rw [hd] at hk2
      have HK2 := hid hk2
      clear HK hk2 hd hc
      go_wp2_with fail
      clear p0 f0 t0
      refine (HM2.out.call (fun h => mustX h _)).mono ?_; rintro e wb2 ⟨rfl, hM⟩
      rw [HK2.out] at hM
      have HM := hid hM
      clear hM HM2 HK2
      clear p1 p2
      go_wp2_with fail
      refine (HM.out.call (fun h => signedX h 18 (by omega))).mono ?_; rintro e wa3 ⟨rfl, hM⟩
      have t0 := hM.bx.cell (i := 2) rfl
      have f0 := hM.bx.thaw 2
      have hk : mst (tk s2 18) (decide (rDir.has (Pg.rdx true (tkv s2 18)))) = (Pg.rdS true s2 0 rDir).2 ∧ ((Pg.rdS true s2 0 rDir).2.2 = 0 → Pg.rdx true (tkv s2 18) = (Pg.rdS true s2 0 rDir).1) := ask_is true s2 0 rDir
      obtain ⟨y2, hy⟩ : ∃ y, Pg.rdx true (tkv s2 18) = y := ⟨_, rfl⟩
      obtain ⟨s3, hs⟩ : ∃ q, (Pg.rdS true s2 0 rDir).2 = q := ⟨_, rfl⟩
      rw [hy, hs] at hk
      rw [hy]
      have HY2 := hid hs; have HV2 := hid hk.2; have HK := hid hk.1
      have hM2 := hM.set 2 (.int .i64 y2)
      simp only [List.setIfInBounds_toArray, List.set_cons_zero, List.set_cons_succ] at hM2
      have HM2 := hid hM2
      clear hM hM2 HM hy hs hk
      have p0 := (HM2.out.bx.cell (i := 2) rfl)
      rcases (show (-65536 ≤ y2 ∧ y2 ≤ 65536) ∨ 65536 < y2 ∨ y2 < -65536 by omega) with hc | hc | hc
      ·
        have hd : decide (rDir.has y2) = true := decide_eq_true ((has_dir _).2 (by omega))
        have p1 : y2 ≤ 65536 := by omega
        have p2 : -65536 ≤ y2 := by omega
        have hk2 := HK.out
        rw [hd] at hk2
        have HK2 := hid hk2
        clear HK hk2 hd hc
        go_wp2_with fail
        clear p0 f0 t0
        refine (HM2.out.call (fun h => mustX h _)).mono ?_; rintro e wb3 ⟨rfl, hM⟩
        rw [HK2.out] at hM
        have HM := hid hM
        clear hM HM2 HK2
        clear p1 p2
        have a0 := HM.out.ax.cell (i := 0) rfl; have a1 := HM.out.ax.cell (i := 1) rfl; have a2 := HM.out.ax.cell (i := 2) rfl
        have e0 := HM.out.bx.cell (i := 0) rfl; have e1 := HM.out.bx.cell (i := 1) rfl; have e2 := HM.out.bx.cell (i := 2) rfl
        have z0 := HM.out.ax.thaw 0; have z1 := HM.out.ax.thaw 1; have z2 := HM.out.ax.thaw 2
        go_wp2_with fail
        have A3 := ((HM.out.ax.set 0 (.int .i64 y0)).set 1 (.int .i64 y1)).set 2 (.int .i64 y2)
        simp only [List.setIfInBounds_toArray, List.set_cons_zero, List.set_cons_succ] at A3
        have F3 : Fr (fun k => k = w.heap.size) wb3 (((wb3.setCell ⟨w.heap.size, 0, none⟩ (.int .i64 y0)).setCell ⟨w.heap.size, 1, none⟩ (.int .i64 y1)).setCell ⟨w.heap.size, 2, none⟩ (.int .i64 y2)) :=
          ((Fr.setCell (S := fun k => k = w.heap.size) (p := ⟨w.heap.size, 0, none⟩) (Fr.refl _ _) rfl _).setCell (p := ⟨w.heap.size, 1, none⟩) rfl _).setCell (p := ⟨w.heap.size, 2, none⟩) rfl _
        have hb := HM.out.hb
        have hR := HM.out.rx.fr F3 (by omega)
        have hF := ((HM.out.fr.setB (g := w.heap.size) (Nat.le_refl _) 0 (.int .i64 y0)).setB (g := w.heap.size) (Nat.le_refl _) 1 (.int .i64 y1)).setB (g := w.heap.size) (Nat.le_refl _) 2 (.int .i64 y2)
        clear a0 a1 a2 e0 e1 e2 z0 z1 z2 F3
        generalize ((wb3.setCell ⟨w.heap.size, 0, none⟩ (.int .i64 y0)).setCell ⟨w.heap.size, 1, none⟩ (.int .i64 y1)).setCell ⟨w.heap.size, 2, none⟩ (.int .i64 y2) = W at *
        have q0 := A3.cell (i := 0) rfl; have q1 := A3.cell (i := 1) rfl; have q2 := A3.cell (i := 2) rfl
        have HR := hid hR; have HF := hid hF
        clear hR hF A3 hb
        refine bodyPost_ret (by simp [results, Try.results63, go_sem, q0, q1, q2]; try rfl) rfl ?_
        exact ⟨y0, y1, y2, rfl, VX.of HY0.out HY1.out HY2.out HV0.out HV1.out HV2.out HR.out HF.out⟩
      ·
        have hd : decide (rDir.has y2) = false := decide_eq_false (fun e => by have := (has_dir _).1 e; omega)
        have p1 : ¬ y2 ≤ 65536 := by omega
        have hk2 := HK.out
        rw [hd] at hk2
        have HK2 := hid hk2
        clear HK hk2 hd hc
        go_wp2_with fail
        clear p0 f0 t0
        refine (HM2.out.call (fun h => mustX h _)).mono ?_; rintro e wb3 ⟨rfl, hM⟩
        have hne : s3.2 ≠ 0 := by rw [← HK2.out]; exact mst_false _
        rw [HK2.out] at hM
        have HM := hid hM
        clear hM HM2 HK2
        clear p1
        have a0 := HM.out.ax.cell (i := 0) rfl; have a1 := HM.out.ax.cell (i := 1) rfl; have a2 := HM.out.ax.cell (i := 2) rfl
        have e0 := HM.out.bx.cell (i := 0) rfl; have e1 := HM.out.bx.cell (i := 1) rfl; have e2 := HM.out.bx.cell (i := 2) rfl
        have z0 := HM.out.ax.thaw 0; have z1 := HM.out.ax.thaw 1; have z2 := HM.out.ax.thaw 2
        go_wp2_with fail
        have A3 := ((HM.out.ax.set 0 (.int .i64 y0)).set 1 (.int .i64 y1)).set 2 (.int .i64 y2)
        simp only [List.setIfInBounds_toArray, List.set_cons_zero, List.set_cons_succ] at A3
        have F3 : Fr (fun k => k = w.heap.size) wb3 (((wb3.setCell ⟨w.heap.size, 0, none⟩ (.int .i64 y0)).setCell ⟨w.heap.size, 1, none⟩ (.int .i64 y1)).setCell ⟨w.heap.size, 2, none⟩ (.int .i64 y2)) :=
          ((Fr.setCell (S := fun k => k = w.heap.size) (p := ⟨w.heap.size, 0, none⟩) (Fr.refl _ _) rfl _).setCell (p := ⟨w.heap.size, 1, none⟩) rfl _).setCell (p := ⟨w.heap.size, 2, none⟩) rfl _
        have hb := HM.out.hb
        have hR := HM.out.rx.fr F3 (by omega)
        have hF := ((HM.out.fr.setB (g := w.heap.size) (Nat.le_refl _) 0 (.int .i64 y0)).setB (g := w.heap.size) (Nat.le_refl _) 1 (.int .i64 y1)).setB (g := w.heap.size) (Nat.le_refl _) 2 (.int .i64 y2)
        clear a0 a1 a2 e0 e1 e2 z0 z1 z2 F3
        generalize ((wb3.setCell ⟨w.heap.size, 0, none⟩ (.int .i64 y0)).setCell ⟨w.heap.size, 1, none⟩ (.int .i64 y1)).setCell ⟨w.heap.size, 2, none⟩ (.int .i64 y2) = W at *
        have q0 := A3.cell (i := 0) rfl; have q1 := A3.cell (i := 1) rfl; have q2 := A3.cell (i := 2) rfl
        have HR := hid hR; have HF := hid hF
        clear hR hF A3 hb
        refine bodyPost_ret (by simp [results, Try.results63, go_sem, q0, q1, q2]; try rfl) rfl ?_
        exact ⟨y0, y1, y2, rfl, VX.of HY0.out HY1.out HY2.out HV0.out HV1.out HV2.out HR.out HF.out⟩
      ·
        have hd : decide (rDir.has y2) = false := decide_eq_false (fun e => by have := (has_dir _).1 e; omega)
        have p1 : y2 ≤ 65536 := by omega
        have p2 : ¬ -65536 ≤ y2 := by omega
        have hk2 := HK.out
        rw [hd] at hk2
        have HK2 := hid hk2
        clear HK hk2 hd hc
        go_wp2_with fail
        clear p0 f0 t0
        refine (HM2.out.call (fun h => mustX h _)).mono ?_; rintro e wb3 ⟨rfl, hM⟩
        try rw [decide_eq_false (show ¬ -65536 ≤ y2 by omega)] at hM
        have hne : s3.2 ≠ 0 := by rw [← HK2.out]; exact mst_false _
        rw [HK2.out] at hM
        have HM := hid hM
        clear hM HM2 HK2
        clear p1 p2
        have a0 := HM.out.ax.cell (i := 0) rfl; have a1 := HM.out.ax.cell (i := 1) rfl; have a2 := HM.out.ax.cell (i := 2) rfl
        have e0 := HM.out.bx.cell (i := 0) rfl; have e1 := HM.out.bx.cell (i := 1) rfl; have e2 := HM.out.bx.cell (i := 2) rfl
        have z0 := HM.out.ax.thaw 0; have z1 := HM.out.ax.thaw 1; have z2 := HM.out.ax.thaw 2
        go_wp2_with fail
        have A3 := ((HM.out.ax.set 0 (.int .i64 y0)).set 1 (.int .i64 y1)).set 2 (.int .i64 y2)
        simp only [List.setIfInBounds_toArray, List.set_cons_zero, List.set_cons_succ] at A3
        have F3 : Fr (fun k => k = w.heap.size) wb3 (((wb3.setCell ⟨w.heap.size, 0, none⟩ (.int .i64 y0)).setCell ⟨w.heap.size, 1, none⟩ (.int .i64 y1)).setCell ⟨w.heap.size, 2, none⟩ (.int .i64 y2)) :=
          ((Fr.setCell (S := fun k => k = w.heap.size) (p := ⟨w.heap.size, 0, none⟩) (Fr.refl _ _) rfl _).setCell (p := ⟨w.heap.size, 1, none⟩) rfl _).setCell (p := ⟨w.heap.size, 2, none⟩) rfl _
        have hb := HM.out.hb
        have hR := HM.out.rx.fr F3 (by omega)
        have hF := ((HM.out.fr.setB (g := w.heap.size) (Nat.le_refl _) 0 (.int .i64 y0)).setB (g := w.heap.size) (Nat.le_refl _) 1 (.int .i64 y1)).setB (g := w.heap.size) (Nat.le_refl _) 2 (.int .i64 y2)
        clear a0 a1 a2 e0 e1 e2 z0 z1 z2 F3
        generalize ((wb3.setCell ⟨w.heap.size, 0, none⟩ (.int .i64 y0)).setCell ⟨w.heap.size, 1, none⟩ (.int .i64 y1)).setCell ⟨w.heap.size, 2, none⟩ (.int .i64 y2) = W at *
        have q0 := A3.cell (i := 0) rfl; have q1 := A3.cell (i := 1) rfl; have q2 := A3.cell (i := 2) rfl
        have HR := hid hR; have HF := hid hF
        clear hR hF A3 hb
        refine bodyPost_ret (by simp [results, Try.results63, go_sem, q0, q1, q2]; try rfl) rfl ?_
        exact ⟨y0, y1, y2, rfl, VX.of HY0.out HY1.out HY2.out HV0.out HV1.out HV2.out HR.out HF.out⟩
    ·
      have hd : decide (rDir.has y1) = false := decide_eq_false (fun e => by have := (has_dir _).1 e; omega)
      have p1 : ¬ y1 ≤ 65536 := by omega
      have hk2 := HK.out
      rw [hd] at hk2
      have HK2 := hid hk2
      clear HK hk2 hd hc
      go_wp2_with fail
      clear p0 f0 t0
      refine (HM2.out.call (fun h => mustX h _)).mono ?_; rintro e wb2 ⟨rfl, hM⟩
      have hne : s2.2 ≠ 0 := by rw [← HK2.out]; exact mst_false _
      rw [HK2.out] at hM
      have HM := hid hM
      clear hM HM2 HK2
      clear p1
      go_wp2_with fail
      have hy : Pg.rdx true (tkv s2 18) = 0 := by rw [tkv_err hne]; rfl
      refine (HM.out.call (fun h => signedX h 18 (by omega))).mono ?_; rintro e wa7 ⟨rfl, hM⟩
      rw [hy, tk_err hne] at *
      have t0 := hM.bx.cell (i := 2) rfl
      have f0 := hM.bx.thaw 2
      have hM2 := hM.set 2 (.int .i64 0)
      simp only [List.setIfInBounds_toArray, List.set_cons_zero, List.set_cons_succ] at hM2
      have HM2 := hid hM2
      have HY2 := hid (show (Pg.rdS true s2 0 rDir).2 = s2 by rw [rdS_err hne])
      have HV2 := hid (show s2.2 = 0 → 0 = (Pg.rdS true s2 0 rDir).1 from fun e => absurd e hne)
      have t1 := hM2.bx.cell (i := 2) rfl
      clear hM hM2 HM hy
      go_wp2_with fail
      clear t0 f0 t1
      refine (HM2.out.call (fun h => mustX h true)).mono ?_; rintro e wb7 ⟨rfl, hM⟩
      rw [mst_true] at hM
      have HM := hid hM
      clear hM HM2
      have a0 := HM.out.ax.cell (i := 0) rfl; have a1 := HM.out.ax.cell (i := 1) rfl; have a2 := HM.out.ax.cell (i := 2) rfl
      have e0 := HM.out.bx.cell (i := 0) rfl; have e1 := HM.out.bx.cell (i := 1) rfl; have e2 := HM.out.bx.cell (i := 2) rfl
      have z0 := HM.out.ax.thaw 0; have z1 := HM.out.ax.thaw 1; have z2 := HM.out.ax.thaw 2
      go_wp2_with fail
      have A3 := ((HM.out.ax.set 0 (.int .i64 y0)).set 1 (.int .i64 y1)).set 2 (.int .i64 0)
      simp only [List.setIfInBounds_toArray, List.set_cons_zero, List.set_cons_succ] at A3
      have F3 : Fr (fun k => k = w.heap.size) wb7 (((wb7.setCell ⟨w.heap.size, 0, none⟩ (.int .i64 y0)).setCell ⟨w.heap.size, 1, none⟩ (.int .i64 y1)).setCell ⟨w.heap.size, 2, none⟩ (.int .i64 0)) :=
        ((Fr.setCell (S := fun k => k = w.heap.size) (p := ⟨w.heap.size, 0, none⟩) (Fr.refl _ _) rfl _).setCell (p := ⟨w.heap.size, 1, none⟩) rfl _).setCell (p := ⟨w.heap.size, 2, none⟩) rfl _
      have hb := HM.out.hb
      have hR := HM.out.rx.fr F3 (by omega)
      have hF := ((HM.out.fr.setB (g := w.heap.size) (Nat.le_refl _) 0 (.int .i64 y0)).setB (g := w.heap.size) (Nat.le_refl _) 1 (.int .i64 y1)).setB (g := w.heap.size) (Nat.le_refl _) 2 (.int .i64 0)
      clear a0 a1 a2 e0 e1 e2 z0 z1 z2 F3
      generalize ((wb7.setCell ⟨w.heap.size, 0, none⟩ (.int .i64 y0)).setCell ⟨w.heap.size, 1, none⟩ (.int .i64 y1)).setCell ⟨w.heap.size, 2, none⟩ (.int .i64 0) = W at *
      have q0 := A3.cell (i := 0) rfl; have q1 := A3.cell (i := 1) rfl; have q2 := A3.cell (i := 2) rfl
      have HR := hid hR; have HF := hid hF
      clear hR hF A3 hb
      refine bodyPost_ret (by simp [results, Try.results63, go_sem, q0, q1, q2]; try rfl) rfl ?_
      exact ⟨y0, y1, 0, rfl, VX.of HY0.out HY1.out HY2.out HV0.out HV1.out HV2.out HR.out HF.out⟩
    ·
      have hd : decide (rDir.has y1) = false := decide_eq_false (fun e => by have := (has_dir _).1 e; omega)
      have p1 : y1 ≤ 65536 := by omega
      have p2 : ¬ -65536 ≤ y1 := by omega
      have hk2 := HK.out
      rw [hd] at hk2
      have HK2 := hid hk2
      clear HK hk2 hd hc
      go_wp2_with fail
      clear p0 f0 t0
      refine (HM2.out.call (fun h => mustX h _)).mono ?_; rintro e wb2 ⟨rfl, hM⟩
      try rw [decide_eq_false (show ¬ -65536 ≤ y1 by omega)] at hM
      have hne : s2.2 ≠ 0 := by rw [← HK2.out]; exact mst_false _
      rw [HK2.out] at hM
      have HM := hid hM
      clear hM HM2 HK2
      clear p1 p2
      go_wp2_with fail
      have hy : Pg.rdx true (tkv s2 18) = 0 := by rw [tkv_err hne]; rfl
      refine (HM.out.call (fun h => signedX h 18 (by omega))).mono ?_; rintro e wa9 ⟨rfl, hM⟩
      rw [hy, tk_err hne] at *
      have t0 := hM.bx.cell (i := 2) rfl
      have f0 := hM.bx.thaw 2
      have hM2 := hM.set 2 (.int .i64 0)
      simp only [List.setIfInBounds_toArray, List.set_cons_zero, List.set_cons_succ] at hM2
      have HM2 := hid hM2
      have HY2 := hid (show (Pg.rdS true s2 0 rDir).2 = s2 by rw [rdS_err hne])
      have HV2 := hid (show s2.2 = 0 → 0 = (Pg.rdS true s2 0 rDir).1 from fun e => absurd e hne)
      have t1 := hM2.bx.cell (i := 2) rfl
      clear hM hM2 HM hy
      go_wp2_with fail
      clear t0 f0 t1
      refine (HM2.out.call (fun h => mustX h true)).mono ?_; rintro e wb9 ⟨rfl, hM⟩
      rw [mst_true] at hM
      have HM := hid hM
      clear hM HM2
      have a0 := HM.out.ax.cell (i := 0) rfl; have a1 := HM.out.ax.cell (i := 1) rfl; have a2 := HM.out.ax.cell (i := 2) rfl
      have e0 := HM.out.bx.cell (i := 0) rfl; have e1 := HM.out.bx.cell (i := 1) rfl; have e2 := HM.out.bx.cell (i := 2) rfl
      have z0 := HM.out.ax.thaw 0; have z1 := HM.out.ax.thaw 1; have z2 := HM.out.ax.thaw 2
      go_wp2_with fail
      have A3 := ((HM.out.ax.set 0 (.int .i64 y0)).set 1 (.int .i64 y1)).set 2 (.int .i64 0)
      simp only [List.setIfInBounds_toArray, List.set_cons_zero, List.set_cons_succ] at A3
      have F3 : Fr (fun k => k = w.heap.size) wb9 (((wb9.setCell ⟨w.heap.size, 0, none⟩ (.int .i64 y0)).setCell ⟨w.heap.size, 1, none⟩ (.int .i64 y1)).setCell ⟨w.heap.size, 2, none⟩ (.int .i64 0)) :=
        ((Fr.setCell (S := fun k => k = w.heap.size) (p := ⟨w.heap.size, 0, none⟩) (Fr.refl _ _) rfl _).setCell (p := ⟨w.heap.size, 1, none⟩) rfl _).setCell (p := ⟨w.heap.size, 2, none⟩) rfl _
      have hb := HM.out.hb
      have hR := HM.out.rx.fr F3 (by omega)
      have hF := ((HM.out.fr.setB (g := w.heap.size) (Nat.le_refl _) 0 (.int .i64 y0)).setB (g := w.heap.size) (Nat.le_refl _) 1 (.int .i64 y1)).setB (g := w.heap.size) (Nat.le_refl _) 2 (.int .i64 0)
      clear a0 a1 a2 e0 e1 e2 z0 z1 z2 F3
      generalize ((wb9.setCell ⟨w.heap.size, 0, none⟩ (.int .i64 y0)).setCell ⟨w.heap.size, 1, none⟩ (.int .i64 y1)).setCell ⟨w.heap.size, 2, none⟩ (.int .i64 0) = W at *
      have q0 := A3.cell (i := 0) rfl; have q1 := A3.cell (i := 1) rfl; have q2 := A3.cell (i := 2) rfl
      have HR := hid hR; have HF := hid hF
      clear hR hF A3 hb
      refine bodyPost_ret (by simp [results, Try.results63, go_sem, q0, q1, q2]; try rfl) rfl ?_
      exact ⟨y0, y1, 0, rfl, VX.of HY0.out HY1.out HY2.out HV0.out HV1.out HV2.out HR.out HF.out⟩
  ·
    have hd : decide (rDir.has y0) = false := decide_eq_false (fun e => by have := (has_dir _).1 e; omega)
    have p1 : ¬ y0 ≤ 65536 := by omega
    have hk2 := HK.out
    rw [hd] at hk2
    have HK2 := hid hk2
    clear HK hk2 hd hc
    go_wp2_with fail
    clear p0 f0 t0
    refine (HM2.out.call (fun h => mustX h _)).mono ?_; rintro e wb1 ⟨rfl, hM⟩
    have hne : s1.2 ≠ 0 := by rw [← HK2.out]; exact mst_false _
    rw [HK2.out] at hM
    have HM := hid hM
    clear hM HM2 HK2
    clear p1
    go_wp2_with fail
    have hy : Pg.rdx true (tkv s1 18) = 0 := by rw [tkv_err hne]; rfl
    refine (HM.out.call (fun h => signedX h 18 (by omega))).mono ?_; rintro e wa11 ⟨rfl, hM⟩
    rw [hy, tk_err hne] at *
    have t0 := hM.bx.cell (i := 1) rfl
    have f0 := hM.bx.thaw 1
    have hM2 := hM.set 1 (.int .i64 0)
    simp only [List.setIfInBounds_toArray, List.set_cons_zero, List.set_cons_succ] at hM2
    have HM2 := hid hM2
    have HY1 := hid (show (Pg.rdS true s1 0 rDir).2 = s1 by rw [rdS_err hne])
    have HV1 := hid (show s1.2 = 0 → 0 = (Pg.rdS true s1 0 rDir).1 from fun e => absurd e hne)
    have t1 := hM2.bx.cell (i := 1) rfl
    clear hM hM2 HM hy
    go_wp2_with fail
    clear t0 f0 t1
    refine (HM2.out.call (fun h => mustX h true)).mono ?_; rintro e wb11 ⟨rfl, hM⟩
    rw [mst_true] at hM
    have HM := hid hM
    clear hM HM2
    go_wp2_with fail
    have hy : Pg.rdx true (tkv s1 18) = 0 := by rw [tkv_err hne]; rfl
    refine (HM.out.call (fun h => signedX h 18 (by omega))).mono ?_; rintro e wa12 ⟨rfl, hM⟩
    rw [hy, tk_err hne] at *
    have t0 := hM.bx.cell (i := 2) rfl
    have f0 := hM.bx.thaw 2
    have hM2 := hM.set 2 (.int .i64 0)
    simp only [List.setIfInBounds_toArray, List.set_cons_zero, List.set_cons_succ] at hM2
    have HM2 := hid hM2
    have HY2 := hid (show (Pg.rdS true s1 0 rDir).2 = s1 by rw [rdS_err hne])
    have HV2 := hid (show s1.2 = 0 → 0 = (Pg.rdS true s1 0 rDir).1 from fun e => absurd e hne)
    have t1 := hM2.bx.cell (i := 2) rfl
    clear hM hM2 HM hy
    go_wp2_with fail
    clear t0 f0 t1
    refine (HM2.out.call (fun h => mustX h true)).mono ?_; rintro e wb12 ⟨rfl, hM⟩
    rw [mst_true] at hM
    have HM := hid hM
    clear hM HM2
    have a0 := HM.out.ax.cell (i := 0) rfl; have a1 := HM.out.ax.cell (i := 1) rfl; have a2 := HM.out.ax.cell (i := 2) rfl
    have e0 := HM.out.bx.cell (i := 0) rfl; have e1 := HM.out.bx.cell (i := 1) rfl; have e2 := HM.out.bx.cell (i := 2) rfl
    have z0 := HM.out.ax.thaw 0; have z1 := HM.out.ax.thaw 1; have z2 := HM.out.ax.thaw 2
    go_wp2_with fail
    have A3 := ((HM.out.ax.set 0 (.int .i64 y0)).set 1 (.int .i64 0)).set 2 (.int .i64 0)
    simp only [List.setIfInBounds_toArray, List.set_cons_zero, List.set_cons_succ] at A3
    have F3 : Fr (fun k => k = w.heap.size) wb12 (((wb12.setCell ⟨w.heap.size, 0, none⟩ (.int .i64 y0)).setCell ⟨w.heap.size, 1, none⟩ (.int .i64 0)).setCell ⟨w.heap.size, 2, none⟩ (.int .i64 0)) :=
      ((Fr.setCell (S := fun k => k = w.heap.size) (p := ⟨w.heap.size, 0, none⟩) (Fr.refl _ _) rfl _).setCell (p := ⟨w.heap.size, 1, none⟩) rfl _).setCell (p := ⟨w.heap.size, 2, none⟩) rfl _
    have hb := HM.out.hb
    have hR := HM.out.rx.fr F3 (by omega)
    have hF := ((HM.out.fr.setB (g := w.heap.size) (Nat.le_refl _) 0 (.int .i64 y0)).setB (g := w.heap.size) (Nat.le_refl _) 1 (.int .i64 0)).setB (g := w.heap.size) (Nat.le_refl _) 2 (.int .i64 0)
    clear a0 a1 a2 e0 e1 e2 z0 z1 z2 F3
    generalize ((wb12.setCell ⟨w.heap.size, 0, none⟩ (.int .i64 y0)).setCell ⟨w.heap.size, 1, none⟩ (.int .i64 0)).setCell ⟨w.heap.size, 2, none⟩ (.int .i64 0) = W at *
    have q0 := A3.cell (i := 0) rfl; have q1 := A3.cell (i := 1) rfl; have q2 := A3.cell (i := 2) rfl
    have HR := hid hR; have HF := hid hF
    clear hR hF A3 hb
    refine bodyPost_ret (by simp [results, Try.results63, go_sem, q0, q1, q2]; try rfl) rfl ?_
    exact ⟨y0, 0, 0, rfl, VX.of HY0.out HY1.out HY2.out HV0.out HV1.out HV2.out HR.out HF.out⟩
  ·
    have hd : decide (rDir.has y0) = false := decide_eq_false (fun e => by have := (has_dir _).1 e; omega)
    have p1 : y0 ≤ 65536 := by omega
    have p2 : ¬ -65536 ≤ y0 := by omega
    have hk2 := HK.out
    rw [hd] at hk2
    have HK2 := hid hk2
    clear HK hk2 hd hc
    go_wp2_with fail
    clear p0 f0 t0
    refine (HM2.out.call (fun h => mustX h _)).mono ?_; rintro e wb1 ⟨rfl, hM⟩
    try rw [decide_eq_false (show ¬ -65536 ≤ y0 by omega)] at hM
    have hne : s1.2 ≠ 0 := by rw [← HK2.out]; exact mst_false _
    rw [HK2.out] at hM
    have HM := hid hM
    clear hM HM2 HK2
    clear p1 p2
    go_wp2_with fail
    have hy : Pg.rdx true (tkv s1 18) = 0 := by rw [tkv_err hne]; rfl
    refine (HM.out.call (fun h => signedX h 18 (by omega))).mono ?_; rintro e wa14 ⟨rfl, hM⟩
    rw [hy, tk_err hne] at *
    have t0 := hM.bx.cell (i := 1) rfl
    have f0 := hM.bx.thaw 1
    have hM2 := hM.set 1 (.int .i64 0)
    simp only [List.setIfInBounds_toArray, List.set_cons_zero, List.set_cons_succ] at hM2
    have HM2 := hid hM2
    have HY1 := hid (show (Pg.rdS true s1 0 rDir).2 = s1 by rw [rdS_err hne])
    have HV1 := hid (show s1.2 = 0 → 0 = (Pg.rdS true s1 0 rDir).1 from fun e => absurd e hne)
    have t1 := hM2.bx.cell (i := 1) rfl
    clear hM hM2 HM hy
    go_wp2_with fail
    clear t0 f0 t1
    refine (HM2.out.call (fun h => mustX h true)).mono ?_; rintro e wb14 ⟨rfl, hM⟩
    rw [mst_true] at hM
    have HM := hid hM
    clear hM HM2
    go_wp2_with fail
    have hy : Pg.rdx true (tkv s1 18) = 0 := by rw [tkv_err hne]; rfl
    refine (HM.out.call (fun h => signedX h 18 (by omega))).mono ?_; rintro e wa15 ⟨rfl, hM⟩
    rw [hy, tk_err hne] at *
    have t0 := hM.bx.cell (i := 2) rfl
    have f0 := hM.bx.thaw 2
    have hM2 := hM.set 2 (.int .i64 0)
    simp only [List.setIfInBounds_toArray, List.set_cons_zero, List.set_cons_succ] at hM2
    have HM2 := hid hM2
    have HY2 := hid (show (Pg.rdS true s1 0 rDir).2 = s1 by rw [rdS_err hne])
    have HV2 := hid (show s1.2 = 0 → 0 = (Pg.rdS true s1 0 rDir).1 from fun e => absurd e hne)
    have t1 := hM2.bx.cell (i := 2) rfl
    clear hM hM2 HM hy
    go_wp2_with fail
    clear t0 f0 t1
    refine (HM2.out.call (fun h => mustX h true)).mono ?_; rintro e wb15 ⟨rfl, hM⟩
    rw [mst_true] at hM
    have HM := hid hM
    clear hM HM2
    have a0 := HM.out.ax.cell (i := 0) rfl; have a1 := HM.out.ax.cell (i := 1) rfl; have a2 := HM.out.ax.cell (i := 2) rfl
    have e0 := HM.out.bx.cell (i := 0) rfl; have e1 := HM.out.bx.cell (i := 1) rfl; have e2 := HM.out.bx.cell (i := 2) rfl
    have z0 := HM.out.ax.thaw 0; have z1 := HM.out.ax.thaw 1; have z2 := HM.out.ax.thaw 2
    go_wp2_with fail
    have A3 := ((HM.out.ax.set 0 (.int .i64 y0)).set 1 (.int .i64 0)).set 2 (.int .i64 0)
    simp only [List.setIfInBounds_toArray, List.set_cons_zero, List.set_cons_succ] at A3
    have F3 : Fr (fun k => k = w.heap.size) wb15 (((wb15.setCell ⟨w.heap.size, 0, none⟩ (.int .i64 y0)).setCell ⟨w.heap.size, 1, none⟩ (.int .i64 0)).setCell ⟨w.heap.size, 2, none⟩ (.int .i64 0)) :=
      ((Fr.setCell (S := fun k => k = w.heap.size) (p := ⟨w.heap.size, 0, none⟩) (Fr.refl _ _) rfl _).setCell (p := ⟨w.heap.size, 1, none⟩) rfl _).setCell (p := ⟨w.heap.size, 2, none⟩) rfl _
    have hb := HM.out.hb
    have hR := HM.out.rx.fr F3 (by omega)
    have hF := ((HM.out.fr.setB (g := w.heap.size) (Nat.le_refl _) 0 (.int .i64 y0)).setB (g := w.heap.size) (Nat.le_refl _) 1 (.int .i64 0)).setB (g := w.heap.size) (Nat.le_refl _) 2 (.int .i64 0)
    clear a0 a1 a2 e0 e1 e2 z0 z1 z2 F3
    generalize ((wb15.setCell ⟨w.heap.size, 0, none⟩ (.int .i64 y0)).setCell ⟨w.heap.size, 1, none⟩ (.int .i64 0)).setCell ⟨w.heap.size, 2, none⟩ (.int .i64 0) = W at *
    have q0 := A3.cell (i := 0) rfl; have q1 := A3.cell (i := 1) rfl; have q2 := A3.cell (i := 2) rfl
    have HR := hid hR; have HF := hid hF
    clear hR hF A3 hb
    refine bodyPost_ret (by simp [results, Try.results63, go_sem, q0, q1, q2]; try rfl) rfl ?_
    exact ⟨y0, 0, 0, rfl, VX.of HY0.out HY1.out HY2.out HV0.out HV1.out HV2.out HR.out HF.out⟩
end Go.Proofs.Ytneaanmchachlaa
