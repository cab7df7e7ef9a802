/- Layer 7 (mail): a box of texts that is filled. -/
import Derived.Test.YtllojhhplfdgkaaMlG
namespace Go.Proofs.Ytllojhhplfdgkaa
open Go.Conc Go.RowKit Go.Shelf
set_option linter.unusedVariables false
set_option linter.unusedSimpArgs false
attribute [local go_sem ↓] Go.wp_at_zero Go.wp_at_succ

/-- Of the first k texts, those for which there was room. -/
def kept (s : Nat → ByteArray) (R k : Nat) : List ByteArray := (List.range (min k R)).map s
theorem kept_length (s : Nat → ByteArray) (R k : Nat) : (kept s R k).length = min k R := by simp [kept]
theorem kept_zero (s : Nat → ByteArray) (R : Nat) : kept s R 0 = [] := by simp [kept]
theorem kept_room {s : Nat → ByteArray} {R k : Nat} (h : k < R) : kept s R (k + 1) = kept s R k ++ [s k] := by
  unfold kept; rw [show min (k + 1) R = k + 1 by omega, show min k R = k by omega, List.range_succ, List.map_append]; rfl
theorem kept_full {s : Nat → ByteArray} {R k : Nat} (h : R ≤ k) : kept s R (k + 1) = kept s R k := by
  unfold kept; rw [show min (k + 1) R = R by omega, show min k R = R by omega]
theorem kept_get {s : Nat → ByteArray} {R k i : Nat} (h : i < min k R) : (kept s R k)[i]? = some (s i) := by
  unfold kept; rw [List.getElem?_map, List.getElem?_range h]; rfl
theorem kept_drop {s : Nat → ByteArray} {R k i : Nat} (h : i < min k R) : (kept s R k).drop i = s i :: (kept s R k).drop (i + 1) := by
  rw [List.drop_eq_getElem_cons (by rw [kept_length]; exact h)]
  congr 1
  have := kept_get (s := s) h
  rw [List.getElem?_eq_getElem (by rw [kept_length]; exact h)] at this
  exact Option.some.inj this
theorem putKept {S : Nat → Prop} {b c R k L : Nat} {s : Nat → ByteArray} {w : World} (h : MBS w S b c R (kept s R k) (L + (k - R))) (hl : L + k ≤ 1000000) :
    Calls Try.prog 20 #[.pointer (some ⟨b, 0, none⟩), .string (s k)] w fun e w' => e = .returned (.bool (decide (k < R))) ∧ ∃ S', MBS w' S' b c R (kept s R (k + 1)) (L + (k + 1 - R)) ∧ Fr S w w' ∧ Sub w S S' := by
  refine (putS h (s k) (by omega)).mono ?_
  rintro e w' ⟨rfl, S', h', hf, hs⟩
  by_cases hr : k < R
  · have hx : (kept s R k).length < R := by rw [kept_length]; omega
    rw [if_pos hx, if_pos hx] at h'
    rw [decide_eq_true hx, decide_eq_true hr, kept_room hr, show L + (k + 1 - R) = L + (k - R) by omega]
    exact ⟨rfl, S', h', hf, hs⟩
  · have hx : ¬ (kept s R k).length < R := by rw [kept_length]; omega
    rw [if_neg hx, if_neg hx] at h'
    rw [decide_eq_false hx, decide_eq_false hr, kept_full (by omega), show L + (k + 1 - R) = L + (k - R) + 1 by omega]
    exact ⟨rfl, S', h', hf, hs⟩
/-- These blocks are as they were. -/
def Keep (X : Nat → Prop) (w w' : World) : Prop := w.heap.size ≤ w'.heap.size ∧ ∀ k, X k → w'.heap[k]? = w.heap[k]?
theorem Keep.refl (X : Nat → Prop) (w : World) : Keep X w w := ⟨Nat.le_refl _, fun _ _ => rfl⟩
theorem Keep.trans {X : Nat → Prop} {a b c : World} (h : Keep X a b) (k : Keep X b c) : Keep X a c := ⟨Nat.le_trans h.1 k.1, fun i hi => (k.2 i hi).trans (h.2 i hi)⟩
theorem Keep.mono {X Y : Nat → Prop} {a b : World} (h : Keep X a b) (hy : ∀ k, Y k → X k) : Keep Y a b := ⟨h.1, fun i hi => h.2 i (hy i hi)⟩
theorem RowV.keepX {E : TypeId} {w w' : World} {B : Nat} {X : Nat → Prop} {v : Value} {ys : List Value} (h : RowV E w B v ys) (hX : ∀ k, v.ownBlock = some k → X k) (hk : Keep X w w') : RowV E w' B v ys := by
  refine ⟨⟨h.own.1, ?_⟩, h.one⟩
  rcases h.own.2 with hn | ⟨g, cap, cur, rfl, hb, hg, r⟩
  · exact .inl hn
  · refine .inr ⟨g, cap, cur, rfl, hb, ?_, r⟩
    rw [hk.2 g (hX g rfl)]; exact hg
/-- A box beside what came in, and beside some blocks. -/
structure KB (B : Nat) (X : Nat → Prop) (w0 w : World) (b c R : Nat) (xs : List ByteArray) (L : Nat) : Prop where
  own : ∃ S, MBS w S b c R xs L ∧ From B S ∧ Dj S X
  below : Below B w0 w
  xlt : ∀ k, X k → k < w.heap.size
theorem keep_of {S X : Nat → Prop} {w w' : World} (hf : Fr S w w') (hd : Dj S X) (hx : ∀ k, X k → k < w.heap.size) : Keep X w w' := ⟨hf.size, fun k hk => hf.block k (hx k hk) (fun e => hd.no k e hk)⟩
theorem KB.put {B : Nat} {X : Nat → Prop} {w0 w : World} {b c R k L : Nat} {s : Nat → ByteArray} (h : KB B X w0 w b c R (kept s R k) (L + (k - R))) (hB : B ≤ w0.heap.size) (hl : L + k ≤ 1000000) :
    Calls Try.prog 20 #[.pointer (some ⟨b, 0, none⟩), .string (s k)] w fun e w' => e = .returned (.bool (decide (k < R))) ∧ KB B X w0 w' b c R (kept s R (k + 1)) (L + (k + 1 - R)) ∧ Keep X w w' := by
  obtain ⟨S, h1, h2, h3⟩ := h.own
  refine (putKept h1 hl).mono ?_
  rintro e w' ⟨rfl, S', h', hf, hs⟩
  have hBw : B ≤ w.heap.size := Nat.le_trans hB h.below.size
  exact ⟨rfl, ⟨⟨S', h', h2.step hs hBw, h3.step hs h.xlt⟩, Below.fr h.below hf h2 hBw, fun k hk => Nat.lt_of_lt_of_le (h.xlt k hk) hf.size⟩, keep_of hf h3 h.xlt⟩
theorem KB.drain {B : Nat} {X : Nat → Prop} {w0 w : World} {b c R L : Nat} {xs : List ByteArray} (h : KB B X w0 w b c R xs L) (hB : B ≤ w0.heap.size) (hR : R ≤ 4096) :
    Calls Try.prog 24 #[.pointer (some ⟨b, 0, none⟩)] w fun e w' => ∃ v, e = .returned v ∧ RowV 9 w' w.heap.size v (xs.map vS) ∧ KB B (fun k => X k ∨ v.ownBlock = some k) w0 w' b c R [] L ∧ Keep X w w' := by
  obtain ⟨S, h1, h2, h3⟩ := h.own
  have hSl := h1.lt
  refine (drainS h1 hR).mono ?_
  rintro e w' ⟨⟨v, rfl, hv⟩, h', hf⟩
  have hBw : B ≤ w.heap.size := Nat.le_trans hB h.below.size
  refine ⟨v, rfl, hv, ⟨⟨S, h', h2, ⟨fun k hk e => ?_⟩⟩, Below.fr h.below hf h2 hBw, fun k hk => ?_⟩, keep_of hf h3 h.xlt⟩
  · rcases e with e | e
    · exact h3.no k hk e
    · have := (hv.lt k e).1; have := hSl k hk; omega
  · rcases hk with e | e
    · exact Nat.lt_of_lt_of_le (h.xlt k e) hf.size
    · exact (hv.lt k e).2
theorem KB.len {B : Nat} {X : Nat → Prop} {w0 w : World} {b c R L : Nat} {xs : List ByteArray} (h : KB B X w0 w b c R xs L) :
    Calls Try.prog 21 #[.pointer (some ⟨b, 0, none⟩)] w fun e w' => e = .returned (.int .i64 (xs.length : Nat)) ∧ w' = w := by
  obtain ⟨S, h1, _⟩ := h.own
  exact lenS h1
theorem KB.lost {B : Nat} {X : Nat → Prop} {w0 w : World} {b c R L : Nat} {xs : List ByteArray} (h : KB B X w0 w b c R xs L) :
    Calls Try.prog 22 #[.pointer (some ⟨b, 0, none⟩)] w fun e w' => e = .returned (.int .i64 (L : Nat)) ∧ w' = w := by
  obtain ⟨S, h1, _⟩ := h.own
  exact lostS h1
theorem KB.take {B : Nat} {X : Nat → Prop} {w0 w : World} {b c R L : Nat} {x : ByteArray} {xs : List ByteArray} (h : KB B X w0 w b c R (x :: xs) L) (hB : B ≤ w0.heap.size) :
    Calls Try.prog 23 #[.pointer (some ⟨b, 0, none⟩)] w fun e w' => e = .returned (.tuple #[.string x, .bool true]) ∧ KB B X w0 w' b c R xs L ∧ Keep X w w' := by
  obtain ⟨S, h1, h2, h3⟩ := h.own
  refine (takeS h1).mono ?_
  rintro e w' ⟨rfl, h', hf⟩
  exact ⟨rfl, ⟨⟨S, h', h2, h3⟩, Below.fr h.below hf h2 (Nat.le_trans hB h.below.size), fun k hk => Nat.lt_of_lt_of_le (h.xlt k hk) hf.size⟩, keep_of hf h3 h.xlt⟩
theorem KB.takeNo {B : Nat} {X : Nat → Prop} {w0 w : World} {b c R L : Nat} (h : KB B X w0 w b c R [] L) :
    Calls Try.prog 23 #[.pointer (some ⟨b, 0, none⟩)] w fun e w' => e = .returned (.tuple #[.string ⟨#[]⟩, .bool false]) ∧ w' = w := by
  obtain ⟨S, h1, _⟩ := h.own
  exact takeNoS h1
/-- A block more that stands aside. -/
theorem KB.aside {B : Nat} {X Y : Nat → Prop} {w0 w : World} {b c R L : Nat} {xs : List ByteArray} (h : KB B X w0 w b c R xs L) {w' : World} (hf : Fr X w w') (hy : ∀ k, Y k → (X k ∨ w.heap.size ≤ k) ∧ k < w'.heap.size) (hX : From B X) (hB : B ≤ w0.heap.size) : KB B Y w0 w' b c R xs L := by
  obtain ⟨S, h1, h2, h3⟩ := h.own
  refine ⟨⟨S, h1.keep hf (fun k hk => h3.no k hk), h2, ⟨fun k hk e => ?_⟩⟩, Below.fr h.below hf hX (Nat.le_trans hB h.below.size), fun k hk => (hy k hk).2⟩
  rcases (hy k e).1 with h4 | h4
  · exact h3.no k hk h4
  · have := h1.lt k hk; omega
theorem newKB (m : Int) (w0 w : World) (B : Nat) (hB : B = w0.heap.size) (hb : Below B w0 w) :
    Calls Try.prog 19 #[.int .i64 m] w fun e w' => ∃ b c, e = .returned (.pointer (some ⟨b, 0, none⟩)) ∧ KB B (fun _ => False) w0 w' b c (room m) [] 0 := by
  refine (newS_at m w).mono ?_
  rintro e w' ⟨rfl, h, b1⟩
  have hs := hb.size
  exact ⟨_, _, rfl, ⟨_, h, ⟨fun k hk => by rcases hk with hk | hk <;> omega⟩, ⟨fun k _ e => e⟩⟩, hb.trans (b1.mono (by omega)), fun k hk => hk.elim⟩
end Go.Proofs.Ytllojhhplfdgkaa
