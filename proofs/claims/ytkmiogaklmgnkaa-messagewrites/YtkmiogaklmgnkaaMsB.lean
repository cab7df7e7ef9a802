/- Layer 5 (message): a way goes on beside boxes; one number of a message, of whatever type. -/
import Derived.Test.YtkmiogaklmgnkaaMsA
namespace Go.Proofs.Ytkmiogaklmgnkaa
open Go.RowKit Go.Shelf
set_option linter.unusedVariables false
attribute [local go_sem ↓] Go.wp_at_zero Go.wp_at_succ

/-- From a world on only the way's own blocks have turned, and new ones; blocks of X are not the way's. -/
def Gn {σ : Type} (W : Way σ) (S : Nat → Prop) (w : World) (X : Nat → Prop) (s : σ) (w' : World) : Prop := ∃ S', W.At s S' w' ∧ Fr S w w' ∧ Sub w S S' ∧ ∀ k, X k → ¬ S' k ∧ k < w'.heap.size
theorem Gn.new {σ : Type} {W : Way σ} {S : Nat → Prop} {w : World} {s : σ} (h : W.At s S w) : Gn W S w (fun _ => False) s w := ⟨S, h, Fr.refl _ _, fun _ h => .inl h, fun _ h => h.elim⟩
theorem Gn.done {σ : Type} {W : Way σ} {S X : Nat → Prop} {w w' : World} {s : σ} (h : Gn W S w X s w') : ∃ S', W.At s S' w' ∧ Fr S w w' ∧ Sub w S S' := by
  obtain ⟨S', h1, h2, h3, _⟩ := h; exact ⟨S', h1, h2, h3⟩
theorem Gn.size {σ : Type} {W : Way σ} {S X : Nat → Prop} {w w' : World} {s : σ} (h : Gn W S w X s w') : w.heap.size ≤ w'.heap.size := by
  obtain ⟨S', h1, h2, h3, _⟩ := h; exact h2.size
theorem Gn.lt {σ : Type} {W : Way σ} {S X : Nat → Prop} {w w' : World} {s : σ} (h : Gn W S w X s w') {k : Nat} (hk : X k) : k < w'.heap.size := by
  obtain ⟨S', h1, h2, h3, h4⟩ := h; exact (h4 k hk).2
theorem Gn.below {σ : Type} {W : Way σ} {S X : Nat → Prop} {w w' w'' : World} {s : σ} (h : Gn W S w X s w') (hb : Below w'.heap.size w' w'') : Gn W S w X s w'' := by
  obtain ⟨S', h1, h2, h3, h4⟩ := h
  exact ⟨S', W.keep h1 (Fr.of_below (fun _ => False) hb) (fun _ _ e => e), h2.trans (Fr.of_below (fun _ => False) hb) (fun _ _ e => e.elim), h3, fun k hk => ⟨(h4 k hk).1, Nat.lt_of_lt_of_le (h4 k hk).2 hb.size⟩⟩
/-- A new box. -/
theorem Gn.alloc {σ : Type} {W : Way σ} {S X : Nat → Prop} {w w' : World} {s : σ} (h : Gn W S w X s w') (o : Obj) : Gn W S w (fun k => X k ∨ k = w'.heap.size) s (w'.alloc o) := by
  obtain ⟨S', h1, h2, h3, h4⟩ := h
  have h5 := W.lt h1
  refine ⟨S', W.keep h1 ((Fr.refl (fun _ => False) w').alloc o) (fun _ _ e => e), h2.alloc o, h3, fun k hk => ?_⟩
  rcases hk with hk | rfl
  · exact ⟨(h4 k hk).1, by have := (h4 k hk).2; simp; omega⟩
  · exact ⟨fun e => by have := h5 _ e; omega, by simp⟩
theorem Gn.mono {σ : Type} {W : Way σ} {S X Y : Nat → Prop} {w w' : World} {s : σ} (h : Gn W S w X s w') (hY : ∀ k, Y k → X k) : Gn W S w Y s w' := by
  obtain ⟨S', h1, h2, h3, h4⟩ := h; exact ⟨S', h1, h2, h3, fun k hk => h4 k (hY k hk)⟩
/-- A box of X is turned. -/
theorem Gn.fr {σ : Type} {W : Way σ} {S X Y : Nat → Prop} {w w' w'' : World} {s : σ} (h : Gn W S w X s w') (hf : Fr Y w' w'') (hY : ∀ k, Y k → X k ∧ w.heap.size ≤ k) : Gn W S w X s w'' := by
  obtain ⟨S', h1, h2, h3, h4⟩ := h
  refine ⟨S', W.keep h1 hf (fun k hk e => (h4 k (hY k e).1).1 hk), h2.trans hf (fun k hk e => by have := (hY k e).2; omega), h3, fun k hk => ⟨(h4 k hk).1, Nat.lt_of_lt_of_le (h4 k hk).2 hf.size⟩⟩
theorem Gn.set {σ : Type} {W : Way σ} {S X : Nat → Prop} {w w' : World} {s : σ} (h : Gn W S w X s w') {B : Nat} (hX : X B) (hB : w.heap.size ≤ B) (i : Nat) (u : Value) : Gn W S w X s (w'.setCell ⟨B, i, none⟩ u) :=
  h.fr (Y := fun k => k = B) (Fr.setCell (S := fun k => k = B) (p := ⟨B, i, none⟩) (Fr.refl _ _) rfl u) (fun k e => by subst e; exact ⟨hX, hB⟩)
theorem Gn.call {σ : Type} {W : Way σ} {S X : Nat → Prop} {w w' : World} {s s' : σ} {F : FuncId} {args : Array Value} {R : Ending → World → Prop} (h : Gn W S w X s w')
    (hc : ∀ S1, W.At s S1 w' → Calls Try.prog F args w' fun e w'' => R e w'' ∧ ∃ S2, W.At s' S2 w'' ∧ Fr S1 w' w'' ∧ Sub w' S1 S2) :
    Calls Try.prog F args w' fun e w'' => R e w'' ∧ Gn W S w X s' w'' ∧ (∀ k, X k → w''.heap[k]? = w'.heap[k]?) ∧ w'.heap.size ≤ w''.heap.size := by
  obtain ⟨S1, h1, h2, h3, h4⟩ := h
  refine (hc S1 h1).mono ?_
  rintro e w'' ⟨hR, S2, g1, g2, g3⟩
  refine ⟨hR, ⟨S2, g1, h2.trans g2 (fun k hk e => (h3 k e).resolve_right (by omega)), fun k hk => ?_, fun k hk => ⟨fun e => ?_, Nat.lt_of_lt_of_le (h4 k hk).2 g2.size⟩⟩, fun k hk => g2.block k (h4 k hk).2 (h4 k hk).1, g2.size⟩
  · rcases g3 k hk with e | e
    · exact h3 k e
    · exact .inr (Nat.le_trans h2.size e)
  · rcases g3 k e with e | e
    · exact (h4 k hk).1 e
    · have := (h4 k hk).2; omega
/-- A box of some cells. -/
structure Bq (w : World) (B : Nat) (t : TypeId) (c : Array Value) : Prop where
  obj : w.heap[B]? = some (.cells c t (0, 0))
theorem Bq.cell {w : World} {B : Nat} {t : TypeId} {c : Array Value} (h : Bq w B t c) {i : Nat} {v : Value} (hi : c[i]? = some v) : w.cell? ⟨B, i, none⟩ = some v := by
  rw [cell_of_row w B i c t (0, 0) h.obj]; exact hi
theorem Bq.thaw {w : World} {B : Nat} {t : TypeId} {c : Array Value} (h : Bq w B t c) (i : Nat) : w.frozen? ⟨B, i, none⟩ = false := by simp [World.frozen?, h.obj]
theorem Bq.lt {w : World} {B : Nat} {t : TypeId} {c : Array Value} (h : Bq w B t c) : B < w.heap.size := (Array.getElem?_eq_some_iff.1 h.obj).1
theorem Bq.new (w : World) (t : TypeId) (c : Array Value) : Bq (w.alloc (.cells c t)) w.heap.size t c := ⟨heap_alloc_new w _⟩
theorem Bq.new' {w : World} {B : Nat} (t : TypeId) (c : Array Value) (h : w.heap.size = B) : Bq (w.alloc (.cells c t)) B t c := by subst h; exact Bq.new w t c
theorem Bq.alloc {w : World} {B : Nat} {t : TypeId} {c : Array Value} (h : Bq w B t c) (o : Obj) : Bq (w.alloc o) B t c := ⟨by rw [Below.heap_alloc _ _ _ h.lt]; exact h.obj⟩
theorem Bq.same {w w' : World} {B : Nat} {t : TypeId} {c : Array Value} (h : Bq w B t c) (he : w'.heap[B]? = w.heap[B]?) : Bq w' B t c := ⟨he.trans h.obj⟩
theorem Bq.below {w w' : World} {B : Nat} {t : TypeId} {c : Array Value} (h : Bq w B t c) (he : Below w.heap.size w w') : Bq w' B t c := ⟨by rw [he.block B h.lt]; exact h.obj⟩
theorem Bq.set {w : World} {B : Nat} {t : TypeId} {c : Array Value} (h : Bq w B t c) (i : Nat) (u : Value) : Bq (w.setCell ⟨B, i, none⟩ u) B t (c.setIfInBounds i u) := ⟨heap_set_same h.obj u⟩
theorem Bq.other {w : World} {B : Nat} {t : TypeId} {c : Array Value} (h : Bq w B t c) {b i : Nat} (hb : B ≠ b) (u : Value) : Bq (w.setCell ⟨b, i, none⟩ u) B t c := ⟨by rw [Below.heap_setCell _ _ _ _ hb]; exact h.obj⟩
theorem wrq_u16 {x : Int} (h : 0 ≤ x ∧ x ≤ 65535) : IntKind.u16.wrap x = x := by
  unfold IntKind.wrap; simp [IntKind.signed, IntKind.bits]; omega
theorem wrq_u8 {x : Int} (h : 0 ≤ x ∧ x ≤ 255) : IntKind.u8.wrap x = x := by
  unfold IntKind.wrap; simp [IntKind.signed, IntKind.bits]; omega
theorem wrq_u32 {x : Int} (h : 0 ≤ x ∧ x ≤ 4294967295) : IntKind.u32.wrap x = x := by
  unfold IntKind.wrap; simp [IntKind.signed, IntKind.bits]; omega
theorem wrq_i8 {x : Int} (h : -128 ≤ x ∧ x ≤ 127) : IntKind.i8.wrap x = x := by
  unfold IntKind.wrap; simp [IntKind.signed, IntKind.bits]; omega
set_option maxRecDepth 100000 in
theorem fieldInt {σ : Type} (W : Way σ) {s : σ} {S : Nat → Prop} (g : Bool) (n : Int) (r : Rm) (w : World) (h : W.At s S w) (hok : W.ok s) :
    Calls Try.prog 42 #[.int .i64 n, W.fv g, rmV r] w fun e w' => e = .returned (.int .i64 (W.step g s n r).1) ∧ ∃ S', W.At (W.step g s n r).2 S' w' ∧ Fr S w w' ∧ Sub w S S' := by
  have hm := W.method g
  have he := W.enters g
  have hg := fun w (h : W.At s S w) => W.goes g n r h hok
  have hk := fun w' (hf : Fr (fun _ => False) w w') => W.keep h hf (fun _ _ e => e)
  unfold Way.fv
  generalize (if g then "embrasure/message.sign" else "embrasure/message.number") = nm at *
  unfold rmV at *
  clear h hok
  go_enter Try.func42, Try.ntmps42
  go_wp2_with fail
  refine (hg _ (hk _ ((Fr.refl _ _).alloc _))).mono ?_
  rintro e w2 ⟨rfl, S', g1, g2, g3⟩
  dsimp only
  have G1 := hid (g1); have G2 := hid g2; have G3 := hid g3
  clear g1 g2 g3 hg hk hm he
  go_wp2_with fail
  go_ret
  refine ⟨rfl, S', G1.out, ((Fr.refl _ _).alloc _).trans G2.out (fun _ _ e => e), fun k hk => (G3.out k hk).imp id (fun e => ?_)⟩
  simp at e; omega
set_option maxRecDepth 100000 in
theorem fieldErr {σ : Type} (W : Way σ) {s : σ} {S : Nat → Prop} (g : Bool) (n : Int) (r : Rm) (w : World) (h : W.At s S w) (hok : W.ok s) :
    Calls Try.prog 48 #[.int .i64 n, W.fv g, rmV r] w fun e w' => e = .returned (.int .i64 (W.step g s n r).1) ∧ ∃ S', W.At (W.step g s n r).2 S' w' ∧ Fr S w w' ∧ Sub w S S' := by
  have hm := W.method g
  have he := W.enters g
  have hg := fun w (h : W.At s S w) => W.goes g n r h hok
  have hk := fun w' (hf : Fr (fun _ => False) w w') => W.keep h hf (fun _ _ e => e)
  unfold Way.fv
  generalize (if g then "embrasure/message.sign" else "embrasure/message.number") = nm at *
  unfold rmV at *
  clear h hok
  go_enter Try.func48, Try.ntmps48
  go_wp2_with fail
  refine (hg _ (hk _ ((Fr.refl _ _).alloc _))).mono ?_
  rintro e w2 ⟨rfl, S', g1, g2, g3⟩
  dsimp only
  have G1 := hid (g1); have G2 := hid g2; have G3 := hid g3
  clear g1 g2 g3 hg hk hm he
  go_wp2_with fail
  go_ret
  refine ⟨rfl, S', G1.out, ((Fr.refl _ _).alloc _).trans G2.out (fun _ _ e => e), fun k hk => (G3.out k hk).imp id (fun e => ?_)⟩
  simp at e; omega
set_option maxRecDepth 100000 in
theorem field64 {σ : Type} (W : Way σ) {s : σ} {S : Nat → Prop} (g : Bool) (n : Int) (r : Rm) (w : World) (h : W.At s S w) (hok : W.ok s) :
    Calls Try.prog 69 #[.int .i64 n, W.fv g, rmV r] w fun e w' => e = .returned (.int .i64 (W.step g s n r).1) ∧ ∃ S', W.At (W.step g s n r).2 S' w' ∧ Fr S w w' ∧ Sub w S S' := by
  have hm := W.method g
  have he := W.enters g
  have hg := fun w (h : W.At s S w) => W.goes g n r h hok
  have hk := fun w' (hf : Fr (fun _ => False) w w') => W.keep h hf (fun _ _ e => e)
  unfold Way.fv
  generalize (if g then "embrasure/message.sign" else "embrasure/message.number") = nm at *
  unfold rmV at *
  clear h hok
  go_enter Try.func69, Try.ntmps69
  go_wp2_with fail
  refine (hg _ (hk _ ((Fr.refl _ _).alloc _))).mono ?_
  rintro e w2 ⟨rfl, S', g1, g2, g3⟩
  dsimp only
  have G1 := hid (g1); have G2 := hid g2; have G3 := hid g3
  clear g1 g2 g3 hg hk hm he
  go_wp2_with fail
  go_ret
  refine ⟨rfl, S', G1.out, ((Fr.refl _ _).alloc _).trans G2.out (fun _ _ e => e), fun k hk => (G3.out k hk).imp id (fun e => ?_)⟩
  simp at e; omega
set_option maxRecDepth 100000 in
theorem fieldU16 {σ : Type} (W : Way σ) {s : σ} {S : Nat → Prop} (g : Bool) (n : Int) (r : Rm) (w : World) (h : W.At s S w) (hok : W.ok s) (hn : 0 ≤ n ∧ n ≤ 65535) (hr : 0 ≤ r.least ∧ r.most ≤ 65535) :
    Calls Try.prog 44 #[.int .u16 n, W.fv g, rmV r] w fun e w' => e = .returned (.int .u16 (W.step g s n r).1) ∧ ∃ S', W.At (W.step g s n r).2 S' w' ∧ Fr S w w' ∧ Sub w S S' := by
  have hm := W.method g
  have he := W.enters g
  have hg := fun w (h : W.At s S w) => W.goes g n r h hok
  have hk := fun w' (hf : Fr (fun _ => False) w w') => W.keep h hf (fun _ _ e => e)
  obtain ⟨x, hx⟩ : ∃ x, (W.step g s n r).1 = x := ⟨_, rfl⟩
  have hxr : 0 ≤ x ∧ x ≤ 65535 := by
    rcases W.res g s n r with e | e | e
    · omega
    · omega
    · obtain ⟨e1, e2⟩ := e; omega
  rw [hx] at hg
  rw [hx]
  have e1 : wrap64 n = n := by unfold wrap64; omega
  have e2 : IntKind.u16.wrap x = x := wrq_u16 hxr
  unfold Way.fv
  generalize (if g then "embrasure/message.sign" else "embrasure/message.number") = nm at *
  unfold rmV at *
  clear h hok
  go_enter Try.func44, Try.ntmps44
  go_wp2_with fail
  refine (hg _ (hk _ ((Fr.refl _ _).alloc _))).mono ?_
  rintro e w2 ⟨rfl, S', g1, g2, g3⟩
  dsimp only
  have G1 := hid (g1); have G2 := hid g2; have G3 := hid g3
  clear g1 g2 g3 hg hk hm he
  go_wp2_with fail
  go_ret
  refine ⟨rfl, S', G1.out, ((Fr.refl _ _).alloc _).trans G2.out (fun _ _ e => e), fun k hk => (G3.out k hk).imp id (fun e => ?_)⟩
  simp at e; omega
set_option maxRecDepth 100000 in
theorem fieldU8 {σ : Type} (W : Way σ) {s : σ} {S : Nat → Prop} (g : Bool) (n : Int) (r : Rm) (w : World) (h : W.At s S w) (hok : W.ok s) (hn : 0 ≤ n ∧ n ≤ 255) (hr : 0 ≤ r.least ∧ r.most ≤ 255) :
    Calls Try.prog 67 #[.int .u8 n, W.fv g, rmV r] w fun e w' => e = .returned (.int .u8 (W.step g s n r).1) ∧ ∃ S', W.At (W.step g s n r).2 S' w' ∧ Fr S w w' ∧ Sub w S S' := by
  have hm := W.method g
  have he := W.enters g
  have hg := fun w (h : W.At s S w) => W.goes g n r h hok
  have hk := fun w' (hf : Fr (fun _ => False) w w') => W.keep h hf (fun _ _ e => e)
  obtain ⟨x, hx⟩ : ∃ x, (W.step g s n r).1 = x := ⟨_, rfl⟩
  have hxr : 0 ≤ x ∧ x ≤ 255 := by
    rcases W.res g s n r with e | e | e
    · omega
    · omega
    · obtain ⟨e1, e2⟩ := e; omega
  rw [hx] at hg
  rw [hx]
  have e1 : wrap64 n = n := by unfold wrap64; omega
  have e2 : IntKind.u8.wrap x = x := wrq_u8 hxr
  unfold Way.fv
  generalize (if g then "embrasure/message.sign" else "embrasure/message.number") = nm at *
  unfold rmV at *
  clear h hok
  go_enter Try.func67, Try.ntmps67
  go_wp2_with fail
  refine (hg _ (hk _ ((Fr.refl _ _).alloc _))).mono ?_
  rintro e w2 ⟨rfl, S', g1, g2, g3⟩
  dsimp only
  have G1 := hid (g1); have G2 := hid g2; have G3 := hid g3
  clear g1 g2 g3 hg hk hm he
  go_wp2_with fail
  go_ret
  refine ⟨rfl, S', G1.out, ((Fr.refl _ _).alloc _).trans G2.out (fun _ _ e => e), fun k hk => (G3.out k hk).imp id (fun e => ?_)⟩
  simp at e; omega
set_option maxRecDepth 100000 in
theorem fieldI8 {σ : Type} (W : Way σ) {s : σ} {S : Nat → Prop} (g : Bool) (n : Int) (r : Rm) (w : World) (h : W.At s S w) (hok : W.ok s) (hn : -128 ≤ n ∧ n ≤ 127) (hr : -128 ≤ r.least ∧ r.most ≤ 127) :
    Calls Try.prog 68 #[.int .i8 n, W.fv g, rmV r] w fun e w' => e = .returned (.int .i8 (W.step g s n r).1) ∧ ∃ S', W.At (W.step g s n r).2 S' w' ∧ Fr S w w' ∧ Sub w S S' := by
  have hm := W.method g
  have he := W.enters g
  have hg := fun w (h : W.At s S w) => W.goes g n r h hok
  have hk := fun w' (hf : Fr (fun _ => False) w w') => W.keep h hf (fun _ _ e => e)
  obtain ⟨x, hx⟩ : ∃ x, (W.step g s n r).1 = x := ⟨_, rfl⟩
  have hxr : -128 ≤ x ∧ x ≤ 127 := by
    rcases W.res g s n r with e | e | e
    · omega
    · omega
    · obtain ⟨e1, e2⟩ := e; omega
  rw [hx] at hg
  rw [hx]
  have e1 : wrap64 n = n := by unfold wrap64; omega
  have e2 : IntKind.i8.wrap x = x := wrq_i8 hxr
  unfold Way.fv
  generalize (if g then "embrasure/message.sign" else "embrasure/message.number") = nm at *
  unfold rmV at *
  clear h hok
  go_enter Try.func68, Try.ntmps68
  go_wp2_with fail
  refine (hg _ (hk _ ((Fr.refl _ _).alloc _))).mono ?_
  rintro e w2 ⟨rfl, S', g1, g2, g3⟩
  dsimp only
  have G1 := hid (g1); have G2 := hid g2; have G3 := hid g3
  clear g1 g2 g3 hg hk hm he
  go_wp2_with fail
  go_ret
  refine ⟨rfl, S', G1.out, ((Fr.refl _ _).alloc _).trans G2.out (fun _ _ e => e), fun k hk => (G3.out k hk).imp id (fun e => ?_)⟩
  simp at e; omega
set_option maxRecDepth 100000 in
theorem fieldU32 {σ : Type} (W : Way σ) {s : σ} {S : Nat → Prop} (g : Bool) (n : Int) (r : Rm) (w : World) (h : W.At s S w) (hok : W.ok s) (hn : 0 ≤ n ∧ n ≤ 4294967295) (hr : 0 ≤ r.least ∧ r.most ≤ 4294967295) :
    Calls Try.prog 49 #[.int .u32 n, W.fv g, rmV r] w fun e w' => e = .returned (.int .u32 (W.step g s n r).1) ∧ ∃ S', W.At (W.step g s n r).2 S' w' ∧ Fr S w w' ∧ Sub w S S' := by
  have hm := W.method g
  have he := W.enters g
  have hg := fun w (h : W.At s S w) => W.goes g n r h hok
  have hk := fun w' (hf : Fr (fun _ => False) w w') => W.keep h hf (fun _ _ e => e)
  obtain ⟨x, hx⟩ : ∃ x, (W.step g s n r).1 = x := ⟨_, rfl⟩
  have hxr : 0 ≤ x ∧ x ≤ 4294967295 := by
    rcases W.res g s n r with e | e | e
    · omega
    · omega
    · obtain ⟨e1, e2⟩ := e; omega
  rw [hx] at hg
  rw [hx]
  have e1 : wrap64 n = n := by unfold wrap64; omega
  have e2 : IntKind.u32.wrap x = x := wrq_u32 hxr
  unfold Way.fv
  generalize (if g then "embrasure/message.sign" else "embrasure/message.number") = nm at *
  unfold rmV at *
  clear h hok
  go_enter Try.func49, Try.ntmps49
  go_wp2_with fail
  refine (hg _ (hk _ ((Fr.refl _ _).alloc _))).mono ?_
  rintro e w2 ⟨rfl, S', g1, g2, g3⟩
  dsimp only
  have G1 := hid (g1); have G2 := hid g2; have G3 := hid g3
  clear g1 g2 g3 hg hk hm he
  go_wp2_with fail
  go_ret
  refine ⟨rfl, S', G1.out, ((Fr.refl _ _).alloc _).trans G2.out (fun _ _ e => e), fun k hk => (G3.out k hk).imp id (fun e => ?_)⟩
  simp at e; omega
end Go.Proofs.Ytkmiogaklmgnkaa
