/- Layer 5 (message): the document's reader: a message, as it is told. -/
import Derived.Test.YtneaanmchachlaaNvA
import Derived.Test.YtneaanmchachlaaMsF
import Derived.Test.YtneaanmchachlaaMsS
namespace Go.Proofs.Ytneaanmchachlaa
open Go.RowKit Go.Shelf
set_option linter.unusedVariables false
set_option linter.unusedSimpArgs false

/-- A message is told as it is read, as long as nothing is wrong. -/
structure MX (w : World) (b : Nat) (t : List Bool × Int) (m : Msg) (v : Value) (w' : World) : Prop where
  rx : RX w' b ((carr (bare 0)).run Pg.rdS t).2
  val : ((carr (bare 0)).run Pg.rdS t).2.2 = 0 → ((carr (bare 0)).run Pg.rdS t).1 = m
  ok : MOk m
  few : m.bytes.length ≤ 1023
  row : Row w' w.heap.size v m.bytes
  fr : Fr (fun k => k = b) w w'
def MXP (w : World) (b : Nat) (t : List Bool × Int) (e : Ending) (w' : World) : Prop := ∃ m v, e = .returned (.agg (msgC m v)) ∧ MX w b t m v w'
/-- A number of so many bits. -/
structure NX (s : Bool) (w : World) (b : Nat) (t : List Bool × Int) (r : Rm) (y : Int) (w' : World) : Prop where
  rx : RX w' b (Pg.rdS s t 0 r).2
  val : (Pg.rdS s t 0 r).2.2 = 0 → y = (Pg.rdS s t 0 r).1
  has : r.has y
  fr : Fr (fun k => k = b) w w'
theorem tkv_or (t : List Bool × Int) (n : Nat) : (tkv t n).length = n ∨ tkv t n = [] := by
  unfold tkv
  split
  · rename_i h; left; rw [List.length_take]; omega
  · exact .inr rfl
theorem numX {w : World} {b : Nat} {t : List Bool × Int} (h : RX w b t) (k : Nat) (hk : k ≤ 62) :
    Calls Try.prog 36 #[.pointer (some ⟨b, 0, none⟩), .int .i64 (k : Int)] w fun e w' => ∃ y, e = .returned (.int .i64 y) ∧ NX false w b t ⟨k, 0, 2 ^ k - 1, hk⟩ y w' := by
  refine (numberX h k hk).mono ?_
  rintro e w' ⟨rfl, h', f⟩
  have a := ask_any false t 0 ⟨k, 0, 2 ^ k - 1, hk⟩ (fun l hl => has_uns l k hk hl)
  refine ⟨_, rfl, by rw [← a.1]; exact h', a.2, ?_, f⟩
  rcases tkv_or t k with e | e
  · exact has_uns _ k hk e
  · rw [e]
    refine ⟨?_, ?_⟩
    · show (0 : Int) ≤ ((val [] : Nat) : Int); omega
    · show (((val [] : Nat) : Int)) ≤ 2 ^ k - 1
      have : (1 : Int) ≤ 2 ^ k := by
        have : 1 ≤ 2 ^ k := Nat.pow_pos (by decide)
        exact_mod_cast this
      have e0 : ((val [] : Nat) : Int) = 0 := rfl
      omega
theorem sgnX {w : World} {b : Nat} {t : List Bool × Int} (h : RX w b t) :
    Calls Try.prog 62 #[.pointer (some ⟨b, 0, none⟩), .int .i64 8] w fun e w' => ∃ y, e = .returned (.int .i64 y) ∧ NX true w b t (sgd 8) y w' := by
  refine (signedX h 8 (by omega)).mono ?_
  rintro e w' ⟨rfl, h', f⟩
  have a := ask_any true t 0 (sgd 8) (fun l hl => has_sgd l 8 (by omega) (by omega) hl)
  refine ⟨_, rfl, by rw [← a.1]; exact h', a.2, ?_, f⟩
  rcases tkv_or t 8 with e | e
  · exact has_sgd _ 8 (by omega) (by omega) e
  · rw [e]; decide
theorem idNX {w : World} {b : Nat} {t : List Bool × Int} (h : RX w b t) :
    Calls Try.prog 64 #[.pointer (some ⟨b, 0, none⟩)] w fun e w' => ∃ y, e = .returned (.int .i64 y) ∧ RX w' b (Pg.rdS false t 0 rID).2 ∧ ((Pg.rdS false t 0 rID).2.2 = 0 → y = (Pg.rdS false t 0 rID).1) ∧ Fr (fun k => k = b) w w' := by
  refine (idX h).mono ?_
  rintro e w' ⟨rfl, h', f⟩
  exact ⟨_, rfl, h', (ask_is false t 0 rID).2, f⟩
/-- A call beside the boxes that tells more than what is left. -/
theorem RM.callE {T : TypeId} {z : Array Value} {w : World} {b : Nat} {t : List Bool × Int} {c : Array Value} {w' : World} (h : RM T z w b t c w') {F : FuncId} {args : Array Value} {R : Ending → World → Prop}
    (hc : RX w' b t → Calls Try.prog F args w' R) (hk : ∀ e w'', R e w'' → (∃ t2, RX w'' b t2) ∧ Fr (fun k => k = b) w' w'') :
    Calls Try.prog F args w' fun e w'' => R e w'' ∧ ∀ t2, RX w'' b t2 → RM T z w b t2 c w'' := by
  refine (hc h.rx).mono ?_
  rintro e w'' hR
  obtain ⟨_, hf⟩ := hk e w'' hR
  have := h.hb
  exact ⟨hR, fun t2 h2 => ⟨h2, h.ax.same (hf.block _ h.ax.lt (by omega)), h.bx.same (hf.block _ h.bx.lt (by omega)), h.fr.trans hf (fun _ _ e => e), h.hb⟩⟩
theorem RM.num {T : TypeId} {z : Array Value} {w : World} {b : Nat} {t : List Bool × Int} {c : Array Value} {w' : World} (h : RM T z w b t c w') (k : Nat) (hk : k ≤ 62) :
    Calls Try.prog 36 #[.pointer (some ⟨b, 0, none⟩), .int .i64 (k : Int)] w' fun e w'' => ∃ y t2, e = .returned (.int .i64 y) ∧ (Pg.rdS false t 0 ⟨k, 0, 2 ^ k - 1, hk⟩).2 = t2 ∧ (t2.2 = 0 → (Pg.rdS false t 0 ⟨k, 0, 2 ^ k - 1, hk⟩).1 = y) ∧ (0 ≤ y ∧ y ≤ 2 ^ k - 1) ∧ RM T z w b t2 c w'' := by
  refine (h.callE (fun hr => numX hr k hk) (fun e w'' ⟨y, _, hn⟩ => ⟨⟨_, hn.rx⟩, hn.fr⟩)).mono ?_
  rintro e w'' ⟨⟨y, rfl, hn⟩, hm⟩
  exact ⟨y, _, rfl, rfl, fun e => (hn.val e).symm, hn.has, hm _ hn.rx⟩
theorem RM.sgn8 {T : TypeId} {z : Array Value} {w : World} {b : Nat} {t : List Bool × Int} {c : Array Value} {w' : World} (h : RM T z w b t c w') :
    Calls Try.prog 62 #[.pointer (some ⟨b, 0, none⟩), .int .i64 8] w' fun e w'' => ∃ y t2, e = .returned (.int .i64 y) ∧ (Pg.rdS true t 0 (sgd 8)).2 = t2 ∧ (t2.2 = 0 → (Pg.rdS true t 0 (sgd 8)).1 = y) ∧ (-128 ≤ y ∧ y ≤ 127) ∧ RM T z w b t2 c w'' := by
  refine (h.callE (fun hr => sgnX hr) (fun e w'' ⟨y, _, hn⟩ => ⟨⟨_, hn.rx⟩, hn.fr⟩)).mono ?_
  rintro e w'' ⟨⟨y, rfl, hn⟩, hm⟩
  exact ⟨y, _, rfl, rfl, fun e => (hn.val e).symm, ⟨hn.has.1, hn.has.2⟩, hm _ hn.rx⟩
theorem RM.id {T : TypeId} {z : Array Value} {w : World} {b : Nat} {t : List Bool × Int} {c : Array Value} {w' : World} (h : RM T z w b t c w') :
    Calls Try.prog 64 #[.pointer (some ⟨b, 0, none⟩)] w' fun e w'' => ∃ y t2, e = .returned (.int .i64 y) ∧ (Pg.rdS false t 0 rID).2 = t2 ∧ (t2.2 = 0 → (Pg.rdS false t 0 rID).1 = y) ∧ RM T z w b t2 c w'' := by
  refine (h.callE (fun hr => idNX hr) (fun e w'' ⟨y, _, hx, _, hf⟩ => ⟨⟨_, hx⟩, hf⟩)).mono ?_
  rintro e w'' ⟨⟨y, rfl, hx, hv, _⟩, hm⟩
  exact ⟨y, _, rfl, rfl, fun e => (hv e).symm, hm _ hx⟩
theorem RM.vecD {T : TypeId} {z : Array Value} {w : World} {b : Nat} {t : List Bool × Int} {c : Array Value} {w' : World} (h : RM T z w b t c w') :
    Calls Try.prog 63 #[.pointer (some ⟨b, 0, none⟩), .int .i64 18, .int .i64 65536] w' fun e w'' => ∃ y0 y1 y2 t2, e = .returned (.agg #[.int .i64 y0, .int .i64 y1, .int .i64 y2]) ∧ ((vecP v0 rDir).run Pg.rdS t).2 = t2 ∧ (t2.2 = 0 → ((vecP v0 rDir).run Pg.rdS t).1 = ⟨y0, y1, y2⟩) ∧ RM T z w b t2 c w'' := by
  refine (h.callE (fun hr => vecDirX hr) (fun e w'' ⟨_, _, _, _, hn⟩ => ⟨⟨_, hn.rx⟩, hn.fr⟩)).mono ?_
  rintro e w'' ⟨⟨y0, y1, y2, rfl, hn⟩, hm⟩
  exact ⟨y0, y1, y2, _, rfl, rfl, hn.val, hm _ hn.rx⟩
theorem RM.vecF {T : TypeId} {z : Array Value} {w : World} {b : Nat} {t : List Bool × Int} {c : Array Value} {w' : World} (h : RM T z w b t c w') :
    Calls Try.prog 63 #[.pointer (some ⟨b, 0, none⟩), .int .i64 32, .int .i64 (-1)] w' fun e w'' => ∃ y0 y1 y2 t2, e = .returned (.agg #[.int .i64 y0, .int .i64 y1, .int .i64 y2]) ∧ ((vecP v0 (sgd 32)).run Pg.rdS t).2 = t2 ∧ (t2.2 = 0 → ((vecP v0 (sgd 32)).run Pg.rdS t).1 = ⟨y0, y1, y2⟩) ∧ RM T z w b t2 c w'' := by
  refine (h.callE (fun hr => vecFreeX hr) (fun e w'' ⟨_, _, _, _, hn⟩ => ⟨⟨_, hn.rx⟩, hn.fr⟩)).mono ?_
  rintro e w'' ⟨⟨y0, y1, y2, rfl, hn⟩, hm⟩
  exact ⟨y0, y1, y2, _, rfl, rfl, hn.val, hm _ hn.rx⟩
theorem RM.setRow {T : TypeId} {z : Array Value} {w : World} {b : Nat} {t : List Bool × Int} {c : Array Value} {w' : World} (h : RM T z w b t c w') (cs : Array Value) : RM T z w b t cs (w'.setRow (w.heap.size + 1) cs) := by
  have := h.hb
  refine ⟨h.rx.fr (S := fun k => k = w.heap.size + 1) (Fr.setRow (S := fun k => k = w.heap.size + 1) (Fr.refl _ _) rfl cs) (by omega), h.ax.same (heap_setRow _ _ _ (by omega)), h.bx.setRow cs, ?_, h.hb⟩
  exact ⟨h.fr.os, h.fr.tape, h.fr.output, by have := h.fr.size; simp [World.setRow]; omega, fun k hk hS => by rw [heap_setRow _ _ _ (by omega)]; exact h.fr.block k hk hS⟩
abbrev zMsg : Array Value := #[.int .i64 0, .int .u16 0, .int .u16 0, .int .u8 0, .int .i8 0, .int .i8 0, .int .i64 0, .int .u16 0, .int .i64 0, .int .i64 0, .int .i64 0, .int .i64 0, .int .i64 0, .int .i64 0, .int .i64 0, .int .i64 0, .int .i64 0, .int .i64 0, .int .i64 0, .int .i64 0, .int .u32 0, .int .u32 0, .slice none 0 0]
theorem zMsg_bare : msgC (bare 0) (.slice none 0 0) = zMsg := rfl
/-- A kind that may be was read. -/
structure KR (l : List Bool) (k : Int) (t0 : List Bool × Int) : Prop where
  st : tk (l, 0) 4 = t0
  zero : t0.2 = 0
  run : (carr (bare 0)).run Pg.rdS (l, 0) = (fieldsP (bare 0) k).run Pg.rdS t0
theorem kind_ok {w : World} {b : Nat} {l : List Bool} {k : Int} (h : RX w b (l, 0)) (hk : Pg.rdx false (tkv (l, 0) 4) = k) (h1 : 1 ≤ k) (h9 : k ≤ 9) :
    (∀ {w' : World}, RX w' b (l, 0) → Calls Try.prog 36 #[.pointer (some ⟨b, 0, none⟩), .int .i64 4] w' fun e w'' => e = .returned (.int .i64 k) ∧ RX w'' b (tk (l, 0) 4) ∧ Fr (fun k => k = b) w' w'') ∧ KR l k (Pg.rdS false (l, 0) 0 rKind).2 := by
  refine ⟨fun h' => by have := numberX h' 4 (by omega); rw [hk] at this; exact this, ?_⟩
  have a : mst (tk (l, 0) 4) (decide (rKind.has (Pg.rdx false (tkv (l, 0) 4)))) = (Pg.rdS false (l, 0) 0 rKind).2 ∧ ((Pg.rdS false (l, 0) 0 rKind).2.2 = 0 → Pg.rdx false (tkv (l, 0) 4) = (Pg.rdS false (l, 0) 0 rKind).1) := ask_is false (l, 0) 0 rKind
  rw [hk] at a
  have hd : decide (rKind.has k) = true := decide_eq_true ⟨h1, h9⟩
  rw [hd, mst_true] at a
  have hl : 4 ≤ l.length := by
    by_cases h4 : 4 ≤ l.length
    · exact h4
    · exfalso
      have e : tkv (l, 0) 4 = [] := by unfold tkv; rw [if_neg (fun e => h4 e.2)]
      rw [e] at hk
      have : Pg.rdx false [] = 0 := rfl
      omega
  have hz : (Pg.rdS false (l, 0) 0 rKind).2.2 = 0 := by
    rw [← a.1]; unfold tk; simp [hl]
  refine ⟨a.1, hz, ?_⟩
  have : (carr (bare 0)).run Pg.rdS (l, 0) = (fieldsP (bare 0) (Pg.rdS false (l, 0) 0 rKind).1).run Pg.rdS (Pg.rdS false (l, 0) 0 rKind).2 := rfl
  rw [this, ← a.2 hz]
theorem MX.of {w w' : World} {b : Nat} {l : List Bool} {k : Int} {t0 s : List Bool × Int} {m : Msg} {v : Value} (kr : KR l k t0) (hs : ((fieldsP (bare 0) k).run Pg.rdS t0).2 = s ∧ (s.2 = 0 → ((fieldsP (bare 0) k).run Pg.rdS t0).1 = m)) (hok : MOk m) (hfew : m.bytes.length ≤ 1023) (hrow : Row w' w.heap.size v m.bytes) (hR : RX w' b s) (hF : Fr (fun k => k = b) w w') : MX w b (l, 0) m v w' := by
  rw [← hs.1] at hR
  refine ⟨by rw [kr.run]; exact hR, fun h0 => ?_, hok, hfew, hrow, hF⟩
  rw [kr.run] at h0 ⊢
  exact hs.2 (by rw [← hs.1]; exact h0)
theorem vec_zero {t : List Bool × Int} {r : Rm} (h : ((vecP v0 r).run Pg.rdS t).2.2 = 0) : t.2 = 0 := rdS_zero (rdS_zero (rdS_zero h))
theorem wrapU_u16 {n : Int} (h0 : 0 ≤ n) (h : n ≤ 65535) : IntKind.u16.wrap n = n := by
  unfold IntKind.wrap
  simp only [IntKind.signed, Bool.false_and, IntKind.bits]
  rw [if_neg (by simp)]
  omega
theorem wrapU_u8 {n : Int} (h0 : 0 ≤ n) (h : n ≤ 255) : IntKind.u8.wrap n = n := by
  unfold IntKind.wrap
  simp only [IntKind.signed, Bool.false_and, IntKind.bits]
  rw [if_neg (by simp)]
  omega
theorem wrapU_u32 {n : Int} (h0 : 0 ≤ n) (h : n ≤ 4294967295) : IntKind.u32.wrap n = n := by
  unfold IntKind.wrap
  simp only [IntKind.signed, Bool.false_and, IntKind.bits]
  rw [if_neg (by simp)]
  omega
theorem wrapU_i8 {n : Int} (h0 : -128 ≤ n) (h : n ≤ 127) : IntKind.i8.wrap n = n := by
  unfold IntKind.wrap
  simp only [IntKind.signed, IntKind.bits, Bool.true_and]
  split <;> rename_i hc <;> simp at hc <;> omega
abbrev U (k : Nat) (h : k ≤ 62 := by decide) : Rm := ⟨k, 0, 2 ^ k - 1, h⟩
theorem fields1 (t : List Bool × Int) : (fieldsP (bare 0) 1).run Pg.rdS t = (bare 1, t) := rfl
theorem fields4 (t : List Bool × Int) : (fieldsP (bare 0) 4).run Pg.rdS t = (bare 4, t) := rfl
theorem fields2 (t : List Bool × Int) : (fieldsP (bare 0) 2).run Pg.rdS t = ({ bare 2 with cmd := ⟨(Pg.rdS false t 0 (uns 16)).1, (Pg.rdS false (Pg.rdS false t 0 (uns 16)).2 0 (uns 2)).1, (Pg.rdS true (Pg.rdS false (Pg.rdS false t 0 (uns 16)).2 0 (uns 2)).2 0 (sgd 8)).1, (Pg.rdS true (Pg.rdS true (Pg.rdS false (Pg.rdS false t 0 (uns 16)).2 0 (uns 2)).2 0 (sgd 8)).2 0 (sgd 8)).1, Go.RowKit.wrap64 ((Pg.rdS false (Pg.rdS true (Pg.rdS true (Pg.rdS false (Pg.rdS false t 0 (uns 16)).2 0 (uns 2)).2 0 (sgd 8)).2 0 (sgd 8)).2 0 (uns 3)).1 + 1)⟩ }, (Pg.rdS false (Pg.rdS true (Pg.rdS true (Pg.rdS false (Pg.rdS false t 0 (uns 16)).2 0 (uns 2)).2 0 (sgd 8)).2 0 (sgd 8)).2 0 (uns 3)).2) := rfl
theorem fields3 (t : List Bool × Int) : (fieldsP (bare 0) 3).run Pg.rdS t = ({ bare 3 with prov := (Pg.rdS false t 0 (uns 16)).1, shot := (Pg.rdS false (Pg.rdS false t 0 (uns 16)).2 0 (uns 1)).1, dir := ((vecP v0 rDir).run Pg.rdS (Pg.rdS false (Pg.rdS false t 0 (uns 16)).2 0 (uns 1)).2).1 }, ((vecP v0 rDir).run Pg.rdS (Pg.rdS false (Pg.rdS false t 0 (uns 16)).2 0 (uns 1)).2).2) := rfl
theorem fields5 (t : List Bool × Int) : (fieldsP (bare 0) 5).run Pg.rdS t = ({ bare 5 with id := (Pg.rdS false t 0 rID).1 }, (Pg.rdS false t 0 rID).2) := rfl
theorem fields6 (t : List Bool × Int) : (fieldsP (bare 0) 6).run Pg.rdS t = ({ bare 6 with seq := (Pg.rdS false t 0 (uns 16)).1, pos := ((vecP v0 (sgd 32)).run Pg.rdS (Pg.rdS false t 0 (uns 16)).2).1, vel := ((vecP v0 (sgd 32)).run Pg.rdS ((vecP v0 (sgd 32)).run Pg.rdS (Pg.rdS false t 0 (uns 16)).2).2).1 }, ((vecP v0 (sgd 32)).run Pg.rdS ((vecP v0 (sgd 32)).run Pg.rdS (Pg.rdS false t 0 (uns 16)).2).2).2) := rfl
theorem fields8 (t : List Bool × Int) : (fieldsP (bare 0) 8).run Pg.rdS t = ({ bare 8 with prov := (Pg.rdS false t 0 (uns 16)).1, why := (Pg.rdS false (Pg.rdS false t 0 (uns 16)).2 0 rWhy).1 }, (Pg.rdS false (Pg.rdS false t 0 (uns 16)).2 0 rWhy).2) := rfl
theorem fields7 (t : List Bool × Int) : (fieldsP (bare 0) 7).run Pg.rdS t = ({ bare 7 with prov := (Pg.rdS false t 0 (uns 16)).1, id := (Pg.rdS false (Pg.rdS false t 0 (uns 16)).2 0 rID).1 }, (Pg.rdS false (Pg.rdS false t 0 (uns 16)).2 0 rID).2) := rfl
open Go.RowKit Go.Shelf
set_option linter.unusedVariables false
set_option linter.unusedSimpArgs false
attribute [local go_sem ↓] Go.wp_at_zero Go.wp_at_succ
set_option maxRecDepth 100000 in
set_option maxHeartbeats 4000000 in
theorem messageX0 {w : World} {b : Nat} {l : List Bool} (h : RX w b (l, 0)) (hk : Pg.rdx false (tkv (l, 0) 4) = 0) :
    Calls Try.prog 38 #[.pointer (some ⟨b, 0, none⟩)] w fun e w' => MXP w b (l, 0) e w' := by
  have hst : mst (tk (l, 0) 4) (decide (rKind.has (Pg.rdx false (tkv (l, 0) 4)))) = (Pg.rdS false (l, 0) 0 rKind).2 := (ask_is false (l, 0) 0 rKind).1
  rw [hk, show decide (rKind.has 0) = false from by decide] at hst
  have hn4 : ∀ {w' : World}, RX w' b (l, 0) → Calls Try.prog 36 #[.pointer (some ⟨b, 0, none⟩), .int .i64 4] w' fun e w'' => e = .returned (.int .i64 0) ∧ RX w'' b (tk (l, 0) 4) ∧ Fr (fun k => k = b) w' w'' := fun h' => by have := numberX h' 4 (by omega); rw [hk] at this; exact this
  have HST := hid hst
  have hM := RM.start 40 zMsg h
  have HM := hid hM
  have hz : (w.alloc (.cells zMsg 40)).heap.size = w.heap.size + 1 := by simp
  have p0 : True := trivial
  clear hM h hst hk
  go_enter Try.func38, Try.ntmps38
  go_wp2_with (refine wpList_store_row rfl 40 _ _ rfl (w.heap.size + 1) zMsg rfl rfl 40 zMsg (by rw [← hz]; exact heap_alloc_new _ _) size_msg rfl one23 ?_; rw [← hz, World.setRow_alloc_new, hz]; generalize (w.alloc (.cells zMsg 40)).alloc (.cells zMsg 40) = u0 at *)
  clear hz
  refine (HM.out.call (t2 := tk (l, 0) 4) hn4).mono ?_; rintro e wk ⟨rfl, hM⟩
  have tc := hM.bx.cell (i := 0) rfl
  have fc := hM.bx.thaw 0
  have hM2 := hM.set 0 (.int .i64 0)
  simp only [List.setIfInBounds_toArray, List.set_cons_zero, List.set_cons_succ] at hM2
  have pc := hM2.bx.cell (i := 0) rfl
  have HM2 := hid hM2
  clear hM hM2 HM hn4
  go_wp2_with fail
  clear tc fc pc
  refine (HM2.out.call (fun h => mustX h _)).mono ?_; rintro e wm ⟨rfl, hM⟩
  skip
  have hM := hM.sub HST.out
  have HM := hid hM
  have pc := hM.bx.cell (i := 0) rfl
  clear hM HM2
  go_upto_region 38 with fail
  clear pc
  go_step
  refine wpList_load_row rfl 40 _ rfl (w.heap.size + 1) rfl 40 #[.int .i64 0, .int .u16 0, .int .u16 0, .int .u8 0, .int .i8 0, .int .i8 0, .int .i64 0, .int .u16 0, .int .i64 0, .int .i64 0, .int .i64 0, .int .i64 0, .int .i64 0, .int .i64 0, .int .i64 0, .int .i64 0, .int .i64 0, .int .i64 0, .int .i64 0, .int .i64 0, .int .u32 0, .int .u32 0, .slice none 0 0] (0, 0) _ HM.out.bx.obj Try.underlying40 rfl size_msg ?_
  refine wpList_store_row rfl 40 _ _ rfl w.heap.size #[.int .i64 0, .int .u16 0, .int .u16 0, .int .u8 0, .int .i8 0, .int .i8 0, .int .i64 0, .int .u16 0, .int .i64 0, .int .i64 0, .int .i64 0, .int .i64 0, .int .i64 0, .int .i64 0, .int .i64 0, .int .i64 0, .int .i64 0, .int .i64 0, .int .i64 0, .int .i64 0, .int .u32 0, .int .u32 0, .slice none 0 0] rfl rfl 40 zMsg HM.out.ax.obj size_msg rfl one23 ?_
  go_wp2_with fail
  have E := HM.out.ax.setRow #[.int .i64 0, .int .u16 0, .int .u16 0, .int .u8 0, .int .i8 0, .int .i8 0, .int .i64 0, .int .u16 0, .int .i64 0, .int .i64 0, .int .i64 0, .int .i64 0, .int .i64 0, .int .i64 0, .int .i64 0, .int .i64 0, .int .i64 0, .int .i64 0, .int .i64 0, .int .i64 0, .int .u32 0, .int .u32 0, .slice none 0 0]
  have F3 : Fr (fun k => k = w.heap.size) wm (wm.setRow w.heap.size #[.int .i64 0, .int .u16 0, .int .u16 0, .int .u8 0, .int .i8 0, .int .i8 0, .int .i64 0, .int .u16 0, .int .i64 0, .int .i64 0, .int .i64 0, .int .i64 0, .int .i64 0, .int .i64 0, .int .i64 0, .int .i64 0, .int .i64 0, .int .i64 0, .int .i64 0, .int .i64 0, .int .u32 0, .int .u32 0, .slice none 0 0]) := Fr.setRow (S := fun k => k = w.heap.size) (Fr.refl _ _) rfl _
  have hb := HM.out.hb
  have hR := HM.out.rx.fr F3 (by omega)
  have hF : Fr (fun k => k = b) w (wm.setRow w.heap.size #[.int .i64 0, .int .u16 0, .int .u16 0, .int .u8 0, .int .i8 0, .int .i8 0, .int .i64 0, .int .u16 0, .int .i64 0, .int .i64 0, .int .i64 0, .int .i64 0, .int .i64 0, .int .i64 0, .int .i64 0, .int .i64 0, .int .i64 0, .int .i64 0, .int .i64 0, .int .i64 0, .int .u32 0, .int .u32 0, .slice none 0 0]) := ⟨F3.os.trans HM.out.fr.os, F3.tape.trans HM.out.fr.tape, F3.output.trans HM.out.fr.output, Nat.le_trans HM.out.fr.size F3.size, fun k hk hS => (F3.block k (Nat.lt_of_lt_of_le hk HM.out.fr.size) (by omega)).trans (HM.out.fr.block k hk hS)⟩
  refine bodyPost_ret (v := .agg #[.int .i64 0, .int .u16 0, .int .u16 0, .int .u8 0, .int .i8 0, .int .i8 0, .int .i64 0, .int .u16 0, .int .i64 0, .int .i64 0, .int .i64 0, .int .i64 0, .int .i64 0, .int .i64 0, .int .i64 0, .int .i64 0, .int .i64 0, .int .i64 0, .int .i64 0, .int .i64 0, .int .u32 0, .int .u32 0, .slice none 0 0]) ?hres ?hdef ?_
  case hres => exact results_cell_row rfl _ _ w.heap.size 40 #[.int .i64 0, .int .u16 0, .int .u16 0, .int .u8 0, .int .i8 0, .int .i8 0, .int .i64 0, .int .u16 0, .int .i64 0, .int .i64 0, .int .i64 0, .int .i64 0, .int .i64 0, .int .i64 0, .int .i64 0, .int .i64 0, .int .i64 0, .int .i64 0, .int .i64 0, .int .i64 0, .int .u32 0, .int .u32 0, .slice none 0 0] (0, 0) _ rfl E.obj Try.underlying40 rfl size_msg
  case hdef => rfl
  have hne : (Pg.rdS false (l, 0) 0 rKind).2.2 ≠ 0 := by rw [← HST.out]; exact mst_false _
  have hend : ((carr (bare 0)).run Pg.rdS (l, 0)).2 = (Pg.rdS false (l, 0) 0 rKind).2 := by
    show ((fieldsP (bare 0) (Pg.rdS false (l, 0) 0 rKind).1).run Pg.rdS (Pg.rdS false (l, 0) 0 rKind).2).2 = _
    generalize Pg.rdS false (l, 0) 0 rKind = x at *
    obtain ⟨x1, x2, x3⟩ := x
    exact Pg.rd_err _ _ hne
  exact ⟨bare 0, .slice none 0 0, rfl, by rw [hend]; exact hR, fun h0 => absurd (by rw [hend] at h0; exact h0) hne, bare_ok _, by simp [bare], Row.nil _ _, hF⟩
set_option maxRecDepth 100000 in
set_option maxHeartbeats 4000000 in
theorem messageXk {w : World} {b : Nat} {l : List Bool} {k : Int} (h : RX w b (l, 0)) (hk : Pg.rdx false (tkv (l, 0) 4) = k) (h9 : 9 < k) :
    Calls Try.prog 38 #[.pointer (some ⟨b, 0, none⟩)] w fun e w' => MXP w b (l, 0) e w' := by
  have hst : mst (tk (l, 0) 4) (decide (rKind.has (Pg.rdx false (tkv (l, 0) 4)))) = (Pg.rdS false (l, 0) 0 rKind).2 := (ask_is false (l, 0) 0 rKind).1
  rw [hk, show decide (rKind.has k) = false from decide_eq_false (fun e => by have h1 : k ≤ 9 := e.2; omega)] at hst
  have hn4 : ∀ {w' : World}, RX w' b (l, 0) → Calls Try.prog 36 #[.pointer (some ⟨b, 0, none⟩), .int .i64 4] w' fun e w'' => e = .returned (.int .i64 k) ∧ RX w'' b (tk (l, 0) 4) ∧ Fr (fun k => k = b) w' w'' := fun h' => by have := numberX h' 4 (by omega); rw [hk] at this; exact this
  have HST := hid hst
  have hM := RM.start 40 zMsg h
  have HM := hid hM
  have hz : (w.alloc (.cells zMsg 40)).heap.size = w.heap.size + 1 := by simp
  have p1 : 1 ≤ k := by omega
  have p2 : ¬ k ≤ 9 := by omega
  have j2 : (k == 2) = false := by simp; omega
  have j3 : (k == 3) = false := by simp; omega
  have j5 : (k == 5) = false := by simp; omega
  have j6 : (k == 6) = false := by simp; omega
  have j7 : (k == 7) = false := by simp; omega
  have j8 : (k == 8) = false := by simp; omega
  have j9 : (k == 9) = false := by simp; omega
  clear hM h hst hk
  go_enter Try.func38, Try.ntmps38
  go_wp2_with (refine wpList_store_row rfl 40 _ _ rfl (w.heap.size + 1) zMsg rfl rfl 40 zMsg (by rw [← hz]; exact heap_alloc_new _ _) size_msg rfl one23 ?_; rw [← hz, World.setRow_alloc_new, hz]; generalize (w.alloc (.cells zMsg 40)).alloc (.cells zMsg 40) = u0 at *)
  clear hz
  refine (HM.out.call (t2 := tk (l, 0) 4) hn4).mono ?_; rintro e wk ⟨rfl, hM⟩
  have tc := hM.bx.cell (i := 0) rfl
  have fc := hM.bx.thaw 0
  have hM2 := hM.set 0 (.int .i64 k)
  simp only [List.setIfInBounds_toArray, List.set_cons_zero, List.set_cons_succ] at hM2
  have pc := hM2.bx.cell (i := 0) rfl
  have HM2 := hid hM2
  clear hM hM2 HM hn4
  go_wp2_with fail
  clear tc fc pc
  refine (HM2.out.call (fun h => mustX h _)).mono ?_; rintro e wm ⟨rfl, hM⟩
  try rw [decide_eq_false (show ¬ k ≤ 9 by omega)] at hM
  have hM := hM.sub HST.out
  have HM := hid hM
  have pc := hM.bx.cell (i := 0) rfl
  clear hM HM2
  go_upto_region 38 with fail
  clear pc
  go_step
  refine wpList_load_row rfl 40 _ rfl (w.heap.size + 1) rfl 40 #[.int .i64 k, .int .u16 0, .int .u16 0, .int .u8 0, .int .i8 0, .int .i8 0, .int .i64 0, .int .u16 0, .int .i64 0, .int .i64 0, .int .i64 0, .int .i64 0, .int .i64 0, .int .i64 0, .int .i64 0, .int .i64 0, .int .i64 0, .int .i64 0, .int .i64 0, .int .i64 0, .int .u32 0, .int .u32 0, .slice none 0 0] (0, 0) _ HM.out.bx.obj Try.underlying40 rfl size_msg ?_
  refine wpList_store_row rfl 40 _ _ rfl w.heap.size #[.int .i64 k, .int .u16 0, .int .u16 0, .int .u8 0, .int .i8 0, .int .i8 0, .int .i64 0, .int .u16 0, .int .i64 0, .int .i64 0, .int .i64 0, .int .i64 0, .int .i64 0, .int .i64 0, .int .i64 0, .int .i64 0, .int .i64 0, .int .i64 0, .int .i64 0, .int .i64 0, .int .u32 0, .int .u32 0, .slice none 0 0] rfl rfl 40 zMsg HM.out.ax.obj size_msg rfl one23 ?_
  go_wp2_with fail
  have E := HM.out.ax.setRow #[.int .i64 k, .int .u16 0, .int .u16 0, .int .u8 0, .int .i8 0, .int .i8 0, .int .i64 0, .int .u16 0, .int .i64 0, .int .i64 0, .int .i64 0, .int .i64 0, .int .i64 0, .int .i64 0, .int .i64 0, .int .i64 0, .int .i64 0, .int .i64 0, .int .i64 0, .int .i64 0, .int .u32 0, .int .u32 0, .slice none 0 0]
  have F3 : Fr (fun k => k = w.heap.size) wm (wm.setRow w.heap.size #[.int .i64 k, .int .u16 0, .int .u16 0, .int .u8 0, .int .i8 0, .int .i8 0, .int .i64 0, .int .u16 0, .int .i64 0, .int .i64 0, .int .i64 0, .int .i64 0, .int .i64 0, .int .i64 0, .int .i64 0, .int .i64 0, .int .i64 0, .int .i64 0, .int .i64 0, .int .i64 0, .int .u32 0, .int .u32 0, .slice none 0 0]) := Fr.setRow (S := fun k => k = w.heap.size) (Fr.refl _ _) rfl _
  have hb := HM.out.hb
  have hR := HM.out.rx.fr F3 (by omega)
  have hF : Fr (fun k => k = b) w (wm.setRow w.heap.size #[.int .i64 k, .int .u16 0, .int .u16 0, .int .u8 0, .int .i8 0, .int .i8 0, .int .i64 0, .int .u16 0, .int .i64 0, .int .i64 0, .int .i64 0, .int .i64 0, .int .i64 0, .int .i64 0, .int .i64 0, .int .i64 0, .int .i64 0, .int .i64 0, .int .i64 0, .int .i64 0, .int .u32 0, .int .u32 0, .slice none 0 0]) := ⟨F3.os.trans HM.out.fr.os, F3.tape.trans HM.out.fr.tape, F3.output.trans HM.out.fr.output, Nat.le_trans HM.out.fr.size F3.size, fun k hk hS => (F3.block k (Nat.lt_of_lt_of_le hk HM.out.fr.size) (by omega)).trans (HM.out.fr.block k hk hS)⟩
  refine bodyPost_ret (v := .agg #[.int .i64 k, .int .u16 0, .int .u16 0, .int .u8 0, .int .i8 0, .int .i8 0, .int .i64 0, .int .u16 0, .int .i64 0, .int .i64 0, .int .i64 0, .int .i64 0, .int .i64 0, .int .i64 0, .int .i64 0, .int .i64 0, .int .i64 0, .int .i64 0, .int .i64 0, .int .i64 0, .int .u32 0, .int .u32 0, .slice none 0 0]) ?hres ?hdef ?_
  case hres => exact results_cell_row rfl _ _ w.heap.size 40 #[.int .i64 k, .int .u16 0, .int .u16 0, .int .u8 0, .int .i8 0, .int .i8 0, .int .i64 0, .int .u16 0, .int .i64 0, .int .i64 0, .int .i64 0, .int .i64 0, .int .i64 0, .int .i64 0, .int .i64 0, .int .i64 0, .int .i64 0, .int .i64 0, .int .i64 0, .int .i64 0, .int .u32 0, .int .u32 0, .slice none 0 0] (0, 0) _ rfl E.obj Try.underlying40 rfl size_msg
  case hdef => rfl
  have hne : (Pg.rdS false (l, 0) 0 rKind).2.2 ≠ 0 := by rw [← HST.out]; exact mst_false _
  have hend : ((carr (bare 0)).run Pg.rdS (l, 0)).2 = (Pg.rdS false (l, 0) 0 rKind).2 := by
    show ((fieldsP (bare 0) (Pg.rdS false (l, 0) 0 rKind).1).run Pg.rdS (Pg.rdS false (l, 0) 0 rKind).2).2 = _
    generalize Pg.rdS false (l, 0) 0 rKind = x at *
    obtain ⟨x1, x2, x3⟩ := x
    exact Pg.rd_err _ _ hne
  exact ⟨bare k, .slice none 0 0, rfl, by rw [hend]; exact hR, fun h0 => absurd (by rw [hend] at h0; exact h0) hne, bare_ok _, by simp [bare], Row.nil _ _, hF⟩
open Go.RowKit Go.Shelf
set_option linter.unusedVariables false
set_option linter.unusedSimpArgs false
attribute [local go_sem ↓] Go.wp_at_zero Go.wp_at_succ
set_option maxRecDepth 100000 in
set_option maxHeartbeats 4000000 in
theorem messageX1 {w : World} {b : Nat} {l : List Bool} (h : RX w b (l, 0)) (hk : Pg.rdx false (tkv (l, 0) 4) = 1) :
    Calls Try.prog 38 #[.pointer (some ⟨b, 0, none⟩)] w fun e w' => MXP w b (l, 0) e w' := by
  have hst := kind_ok h hk (by omega) (by omega)
  obtain ⟨t0, ht0⟩ : ∃ q, (Pg.rdS false (l, 0) 0 rKind).2 = q := ⟨_, rfl⟩
  rw [ht0] at hst
  obtain ⟨hn4, hrun⟩ := hst
  have HRUN := hid hrun; have HT0 := hid ht0
  have hM := RM.start 40 zMsg h
  have HM := hid hM
  have hz : (w.alloc (.cells zMsg 40)).heap.size = w.heap.size + 1 := by simp
  clear hM h hrun ht0 hk
  go_enter Try.func38, Try.ntmps38
  go_wp2_with (refine wpList_store_row rfl 40 _ _ rfl (w.heap.size + 1) zMsg rfl rfl 40 zMsg (by rw [← hz]; exact heap_alloc_new _ _) size_msg rfl one23 ?_; rw [← hz, World.setRow_alloc_new, hz]; generalize (w.alloc (.cells zMsg 40)).alloc (.cells zMsg 40) = u0 at *)
  clear hz
  refine (HM.out.call (t2 := tk (l, 0) 4) hn4).mono ?_; rintro e wk ⟨rfl, hM⟩
  have tc := hM.bx.cell (i := 0) rfl
  have fc := hM.bx.thaw 0
  have hM2 := hM.set 0 (.int .i64 1)
  simp only [List.setIfInBounds_toArray, List.set_cons_zero, List.set_cons_succ] at hM2
  have pc := hM2.bx.cell (i := 0) rfl
  have HM2 := hid hM2
  clear hM hM2 HM hn4
  go_wp2_with fail
  clear tc fc pc
  refine (HM2.out.call (fun h => mustX h true)).mono ?_; rintro e wm ⟨rfl, hM⟩
  rw [mst_true] at hM
  have hM := hM.sub (HRUN.out.st)
  have HM := hid hM
  have pc := hM.bx.cell (i := 0) rfl
  clear hM HM2

  go_upto_region 38 with fail
  clear pc
  go_step
  refine wpList_load_row rfl 40 _ rfl (w.heap.size + 1) rfl 40 #[.int .i64 1, .int .u16 0, .int .u16 0, .int .u8 0, .int .i8 0, .int .i8 0, .int .i64 0, .int .u16 0, .int .i64 0, .int .i64 0, .int .i64 0, .int .i64 0, .int .i64 0, .int .i64 0, .int .i64 0, .int .i64 0, .int .i64 0, .int .i64 0, .int .i64 0, .int .i64 0, .int .u32 0, .int .u32 0, .slice none 0 0] (0, 0) _ HM.out.bx.obj Try.underlying40 rfl size_msg ?_
  refine wpList_store_row rfl 40 _ _ rfl w.heap.size #[.int .i64 1, .int .u16 0, .int .u16 0, .int .u8 0, .int .i8 0, .int .i8 0, .int .i64 0, .int .u16 0, .int .i64 0, .int .i64 0, .int .i64 0, .int .i64 0, .int .i64 0, .int .i64 0, .int .i64 0, .int .i64 0, .int .i64 0, .int .i64 0, .int .i64 0, .int .i64 0, .int .u32 0, .int .u32 0, .slice none 0 0] rfl rfl 40 zMsg HM.out.ax.obj size_msg rfl one23 ?_
  go_wp2_with fail
  have E := HM.out.ax.setRow #[.int .i64 1, .int .u16 0, .int .u16 0, .int .u8 0, .int .i8 0, .int .i8 0, .int .i64 0, .int .u16 0, .int .i64 0, .int .i64 0, .int .i64 0, .int .i64 0, .int .i64 0, .int .i64 0, .int .i64 0, .int .i64 0, .int .i64 0, .int .i64 0, .int .i64 0, .int .i64 0, .int .u32 0, .int .u32 0, .slice none 0 0]
  have F3 : Fr (fun k => k = w.heap.size) wm (wm.setRow w.heap.size #[.int .i64 1, .int .u16 0, .int .u16 0, .int .u8 0, .int .i8 0, .int .i8 0, .int .i64 0, .int .u16 0, .int .i64 0, .int .i64 0, .int .i64 0, .int .i64 0, .int .i64 0, .int .i64 0, .int .i64 0, .int .i64 0, .int .i64 0, .int .i64 0, .int .i64 0, .int .i64 0, .int .u32 0, .int .u32 0, .slice none 0 0]) := Fr.setRow (S := fun k => k = w.heap.size) (Fr.refl _ _) rfl _
  have hb := HM.out.hb
  have hR := HM.out.rx.fr F3 (by omega)
  have hF : Fr (fun k => k = b) w (wm.setRow w.heap.size #[.int .i64 1, .int .u16 0, .int .u16 0, .int .u8 0, .int .i8 0, .int .i8 0, .int .i64 0, .int .u16 0, .int .i64 0, .int .i64 0, .int .i64 0, .int .i64 0, .int .i64 0, .int .i64 0, .int .i64 0, .int .i64 0, .int .i64 0, .int .i64 0, .int .i64 0, .int .i64 0, .int .u32 0, .int .u32 0, .slice none 0 0]) := ⟨F3.os.trans HM.out.fr.os, F3.tape.trans HM.out.fr.tape, F3.output.trans HM.out.fr.output, Nat.le_trans HM.out.fr.size F3.size, fun k hk hS => (F3.block k (Nat.lt_of_lt_of_le hk HM.out.fr.size) (by omega)).trans (HM.out.fr.block k hk hS)⟩
  refine bodyPost_ret (v := .agg #[.int .i64 1, .int .u16 0, .int .u16 0, .int .u8 0, .int .i8 0, .int .i8 0, .int .i64 0, .int .u16 0, .int .i64 0, .int .i64 0, .int .i64 0, .int .i64 0, .int .i64 0, .int .i64 0, .int .i64 0, .int .i64 0, .int .i64 0, .int .i64 0, .int .i64 0, .int .i64 0, .int .u32 0, .int .u32 0, .slice none 0 0]) ?hres ?hdef ?_
  case hres => exact results_cell_row rfl _ _ w.heap.size 40 #[.int .i64 1, .int .u16 0, .int .u16 0, .int .u8 0, .int .i8 0, .int .i8 0, .int .i64 0, .int .u16 0, .int .i64 0, .int .i64 0, .int .i64 0, .int .i64 0, .int .i64 0, .int .i64 0, .int .i64 0, .int .i64 0, .int .i64 0, .int .i64 0, .int .i64 0, .int .i64 0, .int .u32 0, .int .u32 0, .slice none 0 0] (0, 0) _ rfl E.obj Try.underlying40 rfl size_msg
  case hdef => rfl

  refine ⟨bare 1, .slice none 0 0, rfl, MX.of HRUN.out ?_ (by constructor <;> simp [bare, c0, v0] <;> omega) (by simp [bare]) (Row.nil _ _) hR hF⟩
  rw [fields1]
  exact ⟨rfl, fun _ => rfl⟩
open Go.RowKit Go.Shelf
set_option linter.unusedVariables false
set_option linter.unusedSimpArgs false
attribute [local go_sem ↓] Go.wp_at_zero Go.wp_at_succ
set_option maxRecDepth 100000 in
set_option maxHeartbeats 4000000 in
theorem messageX2 {w : World} {b : Nat} {l : List Bool} (h : RX w b (l, 0)) (hk : Pg.rdx false (tkv (l, 0) 4) = 2) :
    Calls Try.prog 38 #[.pointer (some ⟨b, 0, none⟩)] w fun e w' => MXP w b (l, 0) e w' := by
  have hst := kind_ok h hk (by omega) (by omega)
  obtain ⟨t0, ht0⟩ : ∃ q, (Pg.rdS false (l, 0) 0 rKind).2 = q := ⟨_, rfl⟩
  rw [ht0] at hst
  obtain ⟨hn4, hrun⟩ := hst
  have HRUN := hid hrun; have HT0 := hid ht0
  have hM := RM.start 40 zMsg h
  have HM := hid hM
  have hz : (w.alloc (.cells zMsg 40)).heap.size = w.heap.size + 1 := by simp
  clear hM h hrun ht0 hk
  go_enter Try.func38, Try.ntmps38
  go_wp2_with (refine wpList_store_row rfl 40 _ _ rfl (w.heap.size + 1) zMsg rfl rfl 40 zMsg (by rw [← hz]; exact heap_alloc_new _ _) size_msg rfl one23 ?_; rw [← hz, World.setRow_alloc_new, hz]; generalize (w.alloc (.cells zMsg 40)).alloc (.cells zMsg 40) = u0 at *)
  clear hz
  refine (HM.out.call (t2 := tk (l, 0) 4) hn4).mono ?_; rintro e wk ⟨rfl, hM⟩
  have tc := hM.bx.cell (i := 0) rfl
  have fc := hM.bx.thaw 0
  have hM2 := hM.set 0 (.int .i64 2)
  simp only [List.setIfInBounds_toArray, List.set_cons_zero, List.set_cons_succ] at hM2
  have pc := hM2.bx.cell (i := 0) rfl
  have HM2 := hid hM2
  clear hM hM2 HM hn4
  go_wp2_with fail
  clear tc fc pc
  refine (HM2.out.call (fun h => mustX h true)).mono ?_; rintro e wm ⟨rfl, hM⟩
  rw [mst_true] at hM
  have hM := hM.sub (HRUN.out.st)
  have HM := hid hM
  have pc := hM.bx.cell (i := 0) rfl
  clear hM HM2

  go_wp2_with fail
  clear pc
  refine (HM.out.num 16 (by omega)).mono ?_; rintro e w1 ⟨y1, t1, rfl, he, hv, hr, hM⟩
  have hr1 : 0 ≤ y1 ∧ y1 ≤ 65535 := ⟨hr.1, by have := hr.2; omega⟩
  have qw : IntKind.u16.wrap y1 = y1 := wrapU_u16 hr1.1 (by omega)
  clear hr
  have HE1 := hid he; have HV1 := hid hv
  have tc := hM.bx.cell (i := 2) rfl
  have fc := hM.bx.thaw 2
  have hM2 := hM.set 2 (.int .u16 y1)
  simp only [List.setIfInBounds_toArray, List.set_cons_zero, List.set_cons_succ] at hM2
  clear HM hM he hv
  have HM := hid hM2
  clear hM2
  go_wp2_with fail
  clear tc fc qw
  generalize (w1.setCell ⟨w.heap.size + 1, 2, none⟩ (.int .u16 y1)) = v1 at *
  refine (HM.out.num 2 (by omega)).mono ?_; rintro e w2 ⟨y2, t2, rfl, he, hv, hr, hM⟩
  have hr2 : 0 ≤ y2 ∧ y2 ≤ 3 := ⟨hr.1, by have := hr.2; omega⟩
  have qw : IntKind.u8.wrap y2 = y2 := wrapU_u8 hr2.1 (by omega)
  clear hr
  have HE2 := hid he; have HV2 := hid hv
  have tc := hM.bx.cell (i := 3) rfl
  have fc := hM.bx.thaw 3
  have hM2 := hM.set 3 (.int .u8 y2)
  simp only [List.setIfInBounds_toArray, List.set_cons_zero, List.set_cons_succ] at hM2
  clear HM hM he hv
  have HM := hid hM2
  clear hM2
  go_wp2_with fail
  clear tc fc qw
  generalize (w2.setCell ⟨w.heap.size + 1, 3, none⟩ (.int .u8 y2)) = v2 at *
  refine (HM.out.sgn8).mono ?_; rintro e w3 ⟨y3, t3, rfl, he, hv, hr3, hM⟩
  have qw : IntKind.i8.wrap y3 = y3 := wrapU_i8 hr3.1 hr3.2
  have HE3 := hid he; have HV3 := hid hv
  have tc := hM.bx.cell (i := 4) rfl
  have fc := hM.bx.thaw 4
  have hM2 := hM.set 4 (.int .i8 y3)
  simp only [List.setIfInBounds_toArray, List.set_cons_zero, List.set_cons_succ] at hM2
  clear HM hM he hv
  have HM := hid hM2
  clear hM2
  go_wp2_with fail
  clear tc fc qw
  generalize (w3.setCell ⟨w.heap.size + 1, 4, none⟩ (.int .i8 y3)) = v3 at *
  refine (HM.out.sgn8).mono ?_; rintro e w4 ⟨y4, t4, rfl, he, hv, hr4, hM⟩
  have qw : IntKind.i8.wrap y4 = y4 := wrapU_i8 hr4.1 hr4.2
  have HE4 := hid he; have HV4 := hid hv
  have tc := hM.bx.cell (i := 5) rfl
  have fc := hM.bx.thaw 5
  have hM2 := hM.set 5 (.int .i8 y4)
  simp only [List.setIfInBounds_toArray, List.set_cons_zero, List.set_cons_succ] at hM2
  clear HM hM he hv
  have HM := hid hM2
  clear hM2
  go_wp2_with fail
  clear tc fc qw
  generalize (w4.setCell ⟨w.heap.size + 1, 5, none⟩ (.int .i8 y4)) = v4 at *
  refine (HM.out.num 3 (by omega)).mono ?_; rintro e w5 ⟨y5, t5, rfl, he, hv, hr, hM⟩
  have hr5 : 0 ≤ y5 ∧ y5 ≤ 7 := ⟨hr.1, by have := hr.2; omega⟩
  have qw : wrap64 (y5 + 1) = y5 + 1 := wrap_id (by omega) (by omega)
  clear hr
  have HE5 := hid he; have HV5 := hid hv
  have tc := hM.bx.cell (i := 6) rfl
  have fc := hM.bx.thaw 6
  have hM2 := hM.set 6 (.int .i64 (y5 + 1))
  simp only [List.setIfInBounds_toArray, List.set_cons_zero, List.set_cons_succ] at hM2
  clear HM hM he hv
  have HM := hid hM2
  clear hM2
  go_upto_region 38 with fail
  clear tc fc qw
  generalize (w5.setCell ⟨w.heap.size + 1, 6, none⟩ (.int .i64 (y5 + 1))) = v5 at *
  go_step
  refine wpList_load_row rfl 40 _ rfl (w.heap.size + 1) rfl 40 #[.int .i64 2, .int .u16 0, .int .u16 y1, .int .u8 y2, .int .i8 y3, .int .i8 y4, .int .i64 (y5 + 1), .int .u16 0, .int .i64 0, .int .i64 0, .int .i64 0, .int .i64 0, .int .i64 0, .int .i64 0, .int .i64 0, .int .i64 0, .int .i64 0, .int .i64 0, .int .i64 0, .int .i64 0, .int .u32 0, .int .u32 0, .slice none 0 0] (0, 0) _ HM.out.bx.obj Try.underlying40 rfl size_msg ?_
  refine wpList_store_row rfl 40 _ _ rfl w.heap.size #[.int .i64 2, .int .u16 0, .int .u16 y1, .int .u8 y2, .int .i8 y3, .int .i8 y4, .int .i64 (y5 + 1), .int .u16 0, .int .i64 0, .int .i64 0, .int .i64 0, .int .i64 0, .int .i64 0, .int .i64 0, .int .i64 0, .int .i64 0, .int .i64 0, .int .i64 0, .int .i64 0, .int .i64 0, .int .u32 0, .int .u32 0, .slice none 0 0] rfl rfl 40 zMsg HM.out.ax.obj size_msg rfl one23 ?_
  go_wp2_with fail
  have E := HM.out.ax.setRow #[.int .i64 2, .int .u16 0, .int .u16 y1, .int .u8 y2, .int .i8 y3, .int .i8 y4, .int .i64 (y5 + 1), .int .u16 0, .int .i64 0, .int .i64 0, .int .i64 0, .int .i64 0, .int .i64 0, .int .i64 0, .int .i64 0, .int .i64 0, .int .i64 0, .int .i64 0, .int .i64 0, .int .i64 0, .int .u32 0, .int .u32 0, .slice none 0 0]
  have F3 : Fr (fun k => k = w.heap.size) v5 (v5.setRow w.heap.size #[.int .i64 2, .int .u16 0, .int .u16 y1, .int .u8 y2, .int .i8 y3, .int .i8 y4, .int .i64 (y5 + 1), .int .u16 0, .int .i64 0, .int .i64 0, .int .i64 0, .int .i64 0, .int .i64 0, .int .i64 0, .int .i64 0, .int .i64 0, .int .i64 0, .int .i64 0, .int .i64 0, .int .i64 0, .int .u32 0, .int .u32 0, .slice none 0 0]) := Fr.setRow (S := fun k => k = w.heap.size) (Fr.refl _ _) rfl _
  have hb := HM.out.hb
  have hR := HM.out.rx.fr F3 (by omega)
  have hF : Fr (fun k => k = b) w (v5.setRow w.heap.size #[.int .i64 2, .int .u16 0, .int .u16 y1, .int .u8 y2, .int .i8 y3, .int .i8 y4, .int .i64 (y5 + 1), .int .u16 0, .int .i64 0, .int .i64 0, .int .i64 0, .int .i64 0, .int .i64 0, .int .i64 0, .int .i64 0, .int .i64 0, .int .i64 0, .int .i64 0, .int .i64 0, .int .i64 0, .int .u32 0, .int .u32 0, .slice none 0 0]) := ⟨F3.os.trans HM.out.fr.os, F3.tape.trans HM.out.fr.tape, F3.output.trans HM.out.fr.output, Nat.le_trans HM.out.fr.size F3.size, fun k hk hS => (F3.block k (Nat.lt_of_lt_of_le hk HM.out.fr.size) (by omega)).trans (HM.out.fr.block k hk hS)⟩
  refine bodyPost_ret (v := .agg #[.int .i64 2, .int .u16 0, .int .u16 y1, .int .u8 y2, .int .i8 y3, .int .i8 y4, .int .i64 (y5 + 1), .int .u16 0, .int .i64 0, .int .i64 0, .int .i64 0, .int .i64 0, .int .i64 0, .int .i64 0, .int .i64 0, .int .i64 0, .int .i64 0, .int .i64 0, .int .i64 0, .int .i64 0, .int .u32 0, .int .u32 0, .slice none 0 0]) ?hres ?hdef ?_
  case hres => exact results_cell_row rfl _ _ w.heap.size 40 #[.int .i64 2, .int .u16 0, .int .u16 y1, .int .u8 y2, .int .i8 y3, .int .i8 y4, .int .i64 (y5 + 1), .int .u16 0, .int .i64 0, .int .i64 0, .int .i64 0, .int .i64 0, .int .i64 0, .int .i64 0, .int .i64 0, .int .i64 0, .int .i64 0, .int .i64 0, .int .i64 0, .int .i64 0, .int .u32 0, .int .u32 0, .slice none 0 0] (0, 0) _ rfl E.obj Try.underlying40 rfl size_msg
  case hdef => rfl

  refine ⟨{ bare 2 with cmd := ⟨y1, y2, y3, y4, y5 + 1⟩ }, .slice none 0 0, rfl, MX.of HRUN.out ?_ (by constructor <;> simp [bare, c0, v0] <;> omega) (by simp [bare]) (Row.nil _ _) hR hF⟩
  rw [fields2]
  refine ⟨by simp only [true_and, HE1.out, HE2.out, HE3.out, HE4.out, HE5.out], fun h0 => ?_⟩
  have z5 := h0
  have z4 : t4.2 = 0 := rdS_zero (by rw [HE5.out]; exact z5)
  have z3 : t3.2 = 0 := rdS_zero (by rw [HE4.out]; exact z4)
  have z2 : t2.2 = 0 := rdS_zero (by rw [HE3.out]; exact z3)
  have z1 : t1.2 = 0 := rdS_zero (by rw [HE2.out]; exact z2)
  have z0 : t0.2 = 0 := rdS_zero (by rw [HE1.out]; exact z1)
  have x1 := HV1.out z1
  have x2 := HV2.out z2
  have x3 := HV3.out z3
  have x4 := HV4.out z4
  have x5 := HV5.out z5
  have wt : wrap64 (y5 + 1) = y5 + 1 := wrap_id (by have := hr5; omega) (by have := hr5; omega)
  simp only [true_and, HE1.out, x1, HE2.out, x2, HE3.out, x3, HE4.out, x4, HE5.out, x5, wt]
open Go.RowKit Go.Shelf
set_option linter.unusedVariables false
set_option linter.unusedSimpArgs false
attribute [local go_sem ↓] Go.wp_at_zero Go.wp_at_succ
set_option maxRecDepth 100000 in
set_option maxHeartbeats 4000000 in
theorem messageX3 {w : World} {b : Nat} {l : List Bool} (h : RX w b (l, 0)) (hk : Pg.rdx false (tkv (l, 0) 4) = 3) :
    Calls Try.prog 38 #[.pointer (some ⟨b, 0, none⟩)] w fun e w' => MXP w b (l, 0) e w' := by
  have hst := kind_ok h hk (by omega) (by omega)
  obtain ⟨t0, ht0⟩ : ∃ q, (Pg.rdS false (l, 0) 0 rKind).2 = q := ⟨_, rfl⟩
  rw [ht0] at hst
  obtain ⟨hn4, hrun⟩ := hst
  have HRUN := hid hrun; have HT0 := hid ht0
  have hM := RM.start 40 zMsg h
  have HM := hid hM
  have hz : (w.alloc (.cells zMsg 40)).heap.size = w.heap.size + 1 := by simp
  clear hM h hrun ht0 hk
  go_enter Try.func38, Try.ntmps38
  go_wp2_with (refine wpList_store_row rfl 40 _ _ rfl (w.heap.size + 1) zMsg rfl rfl 40 zMsg (by rw [← hz]; exact heap_alloc_new _ _) size_msg rfl one23 ?_; rw [← hz, World.setRow_alloc_new, hz]; generalize (w.alloc (.cells zMsg 40)).alloc (.cells zMsg 40) = u0 at *)
  clear hz
  refine (HM.out.call (t2 := tk (l, 0) 4) hn4).mono ?_; rintro e wk ⟨rfl, hM⟩
  have tc := hM.bx.cell (i := 0) rfl
  have fc := hM.bx.thaw 0
  have hM2 := hM.set 0 (.int .i64 3)
  simp only [List.setIfInBounds_toArray, List.set_cons_zero, List.set_cons_succ] at hM2
  have pc := hM2.bx.cell (i := 0) rfl
  have HM2 := hid hM2
  clear hM hM2 HM hn4
  go_wp2_with fail
  clear tc fc pc
  refine (HM2.out.call (fun h => mustX h true)).mono ?_; rintro e wm ⟨rfl, hM⟩
  rw [mst_true] at hM
  have hM := hM.sub (HRUN.out.st)
  have HM := hid hM
  have pc := hM.bx.cell (i := 0) rfl
  clear hM HM2

  go_wp2_with fail
  clear pc
  refine (HM.out.num 16 (by omega)).mono ?_; rintro e w1 ⟨y1, t1, rfl, he, hv, hr, hM⟩
  have hr1 : 0 ≤ y1 ∧ y1 ≤ 65535 := ⟨hr.1, by have := hr.2; omega⟩
  have qw : IntKind.u16.wrap y1 = y1 := wrapU_u16 hr1.1 (by omega)
  clear hr
  have HE1 := hid he; have HV1 := hid hv
  have tc := hM.bx.cell (i := 7) rfl
  have fc := hM.bx.thaw 7
  have hM2 := hM.set 7 (.int .u16 y1)
  simp only [List.setIfInBounds_toArray, List.set_cons_zero, List.set_cons_succ] at hM2
  clear HM hM he hv
  have HM := hid hM2
  clear hM2
  go_wp2_with fail
  clear tc fc qw
  generalize (w1.setCell ⟨w.heap.size + 1, 7, none⟩ (.int .u16 y1)) = v1 at *
  refine (HM.out.num 1 (by omega)).mono ?_; rintro e w2 ⟨y2, t2, rfl, he, hv, hr, hM⟩
  have hr2 : 0 ≤ y2 ∧ y2 ≤ 1 := ⟨hr.1, by have := hr.2; omega⟩
  clear hr
  have HE2 := hid he; have HV2 := hid hv
  have tc := hM.bx.cell (i := 9) rfl
  have fc := hM.bx.thaw 9
  have hM2 := hM.set 9 (.int .i64 y2)
  simp only [List.setIfInBounds_toArray, List.set_cons_zero, List.set_cons_succ] at hM2
  clear HM hM he hv
  have HM := hid hM2
  clear hM2
  go_wp2_with fail
  clear tc fc
  generalize (w2.setCell ⟨w.heap.size + 1, 9, none⟩ (.int .i64 y2)) = v2 at *
  refine (HM.out.vecD).mono ?_; rintro e w3 ⟨y3x, y3y, y3z, t3, rfl, he, hv, hM⟩
  have HE3 := hid he; have HV3 := hid hv
  have tc0 := hM.bx.cell (i := 10) rfl; have tc1 := hM.bx.cell (i := 11) rfl; have tc2 := hM.bx.cell (i := 12) rfl
  have fc := hM.bx.thaw
  have hM2 := ((hM.set 10 (.int .i64 y3x)).set 11 (.int .i64 y3y)).set 12 (.int .i64 y3z)
  simp only [List.setIfInBounds_toArray, List.set_cons_zero, List.set_cons_succ] at hM2
  clear HM hM he hv
  have HM := hid hM2
  clear hM2
  go_upto_region 38 with fail
  clear tc0 tc1 tc2 fc
  generalize (((w3.setCell ⟨w.heap.size + 1, 10, none⟩ (.int .i64 y3x)).setCell ⟨w.heap.size + 1, 11, none⟩ (.int .i64 y3y)).setCell ⟨w.heap.size + 1, 12, none⟩ (.int .i64 y3z)) = v3 at *
  go_step
  refine wpList_load_row rfl 40 _ rfl (w.heap.size + 1) rfl 40 #[.int .i64 3, .int .u16 0, .int .u16 0, .int .u8 0, .int .i8 0, .int .i8 0, .int .i64 0, .int .u16 y1, .int .i64 0, .int .i64 y2, .int .i64 y3x, .int .i64 y3y, .int .i64 y3z, .int .i64 0, .int .i64 0, .int .i64 0, .int .i64 0, .int .i64 0, .int .i64 0, .int .i64 0, .int .u32 0, .int .u32 0, .slice none 0 0] (0, 0) _ HM.out.bx.obj Try.underlying40 rfl size_msg ?_
  refine wpList_store_row rfl 40 _ _ rfl w.heap.size #[.int .i64 3, .int .u16 0, .int .u16 0, .int .u8 0, .int .i8 0, .int .i8 0, .int .i64 0, .int .u16 y1, .int .i64 0, .int .i64 y2, .int .i64 y3x, .int .i64 y3y, .int .i64 y3z, .int .i64 0, .int .i64 0, .int .i64 0, .int .i64 0, .int .i64 0, .int .i64 0, .int .i64 0, .int .u32 0, .int .u32 0, .slice none 0 0] rfl rfl 40 zMsg HM.out.ax.obj size_msg rfl one23 ?_
  go_wp2_with fail
  have E := HM.out.ax.setRow #[.int .i64 3, .int .u16 0, .int .u16 0, .int .u8 0, .int .i8 0, .int .i8 0, .int .i64 0, .int .u16 y1, .int .i64 0, .int .i64 y2, .int .i64 y3x, .int .i64 y3y, .int .i64 y3z, .int .i64 0, .int .i64 0, .int .i64 0, .int .i64 0, .int .i64 0, .int .i64 0, .int .i64 0, .int .u32 0, .int .u32 0, .slice none 0 0]
  have F3 : Fr (fun k => k = w.heap.size) v3 (v3.setRow w.heap.size #[.int .i64 3, .int .u16 0, .int .u16 0, .int .u8 0, .int .i8 0, .int .i8 0, .int .i64 0, .int .u16 y1, .int .i64 0, .int .i64 y2, .int .i64 y3x, .int .i64 y3y, .int .i64 y3z, .int .i64 0, .int .i64 0, .int .i64 0, .int .i64 0, .int .i64 0, .int .i64 0, .int .i64 0, .int .u32 0, .int .u32 0, .slice none 0 0]) := Fr.setRow (S := fun k => k = w.heap.size) (Fr.refl _ _) rfl _
  have hb := HM.out.hb
  have hR := HM.out.rx.fr F3 (by omega)
  have hF : Fr (fun k => k = b) w (v3.setRow w.heap.size #[.int .i64 3, .int .u16 0, .int .u16 0, .int .u8 0, .int .i8 0, .int .i8 0, .int .i64 0, .int .u16 y1, .int .i64 0, .int .i64 y2, .int .i64 y3x, .int .i64 y3y, .int .i64 y3z, .int .i64 0, .int .i64 0, .int .i64 0, .int .i64 0, .int .i64 0, .int .i64 0, .int .i64 0, .int .u32 0, .int .u32 0, .slice none 0 0]) := ⟨F3.os.trans HM.out.fr.os, F3.tape.trans HM.out.fr.tape, F3.output.trans HM.out.fr.output, Nat.le_trans HM.out.fr.size F3.size, fun k hk hS => (F3.block k (Nat.lt_of_lt_of_le hk HM.out.fr.size) (by omega)).trans (HM.out.fr.block k hk hS)⟩
  refine bodyPost_ret (v := .agg #[.int .i64 3, .int .u16 0, .int .u16 0, .int .u8 0, .int .i8 0, .int .i8 0, .int .i64 0, .int .u16 y1, .int .i64 0, .int .i64 y2, .int .i64 y3x, .int .i64 y3y, .int .i64 y3z, .int .i64 0, .int .i64 0, .int .i64 0, .int .i64 0, .int .i64 0, .int .i64 0, .int .i64 0, .int .u32 0, .int .u32 0, .slice none 0 0]) ?hres ?hdef ?_
  case hres => exact results_cell_row rfl _ _ w.heap.size 40 #[.int .i64 3, .int .u16 0, .int .u16 0, .int .u8 0, .int .i8 0, .int .i8 0, .int .i64 0, .int .u16 y1, .int .i64 0, .int .i64 y2, .int .i64 y3x, .int .i64 y3y, .int .i64 y3z, .int .i64 0, .int .i64 0, .int .i64 0, .int .i64 0, .int .i64 0, .int .i64 0, .int .i64 0, .int .u32 0, .int .u32 0, .slice none 0 0] (0, 0) _ rfl E.obj Try.underlying40 rfl size_msg
  case hdef => rfl

  refine ⟨{ bare 3 with prov := y1, shot := y2, dir := ⟨y3x, y3y, y3z⟩ }, .slice none 0 0, rfl, MX.of HRUN.out ?_ (by constructor <;> simp [bare, c0, v0] <;> omega) (by simp [bare]) (Row.nil _ _) hR hF⟩
  rw [fields3]
  refine ⟨by simp only [true_and, HE1.out, HE2.out, HE3.out], fun h0 => ?_⟩
  have z3 := h0
  have z2 : t2.2 = 0 := vec_zero (by rw [HE3.out]; exact z3)
  have z1 : t1.2 = 0 := rdS_zero (by rw [HE2.out]; exact z2)
  have z0 : t0.2 = 0 := rdS_zero (by rw [HE1.out]; exact z1)
  have x1 := HV1.out z1
  have x2 := HV2.out z2
  have x3 := HV3.out z3
  simp only [true_and, HE1.out, x1, HE2.out, x2, HE3.out, x3]
end Go.Proofs.Ytneaanmchachlaa
