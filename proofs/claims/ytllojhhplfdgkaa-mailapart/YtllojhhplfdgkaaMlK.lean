/- Layer 7 (mail): a box, the document's box, and something else beside them. -/
import Derived.Test.YtllojhhplfdgkaaMlG
import Derived.Test.YtllojhhplfdgkaaMlArg
namespace Go.Proofs.Ytllojhhplfdgkaa
open Go.Conc Go.RowKit Go.Shelf
set_option linter.unusedVariables false
set_option linter.unusedSimpArgs false

theorem region_held {P : Program} {id : Nat} {Q : Exit → Act → World → Prop} {a : Act} {w : World} {l : List Oper} (S : World → Prop) (k : Nat) (hk : l.toArray.size = k) (hm : P.follows .mixedOrders = true) (hS : S w.drew)
    (h : S w.drew → wpAnyH P .any l.toArray (Only Q) S k (Array.replicate k false) a w.drew) : (Code.region id l.toArray true).wp P Q a w :=
  Code.wp_mono Only.imp (wp_region_held hm (by subst hk; exact h hS))
/-- Something that lies in memory. -/
structure Lies (Z : World → (Nat → Prop) → Prop) : Prop where
  keep : ∀ {w w' : World} {S S' : Nat → Prop}, Z w S → Fr S' w w' → (∀ k, S k → ¬ S' k) → Z w' S
  lt : ∀ {w : World} {S : Nat → Prop}, Z w S → ∀ k, S k → k < w.heap.size
/-- Nothing. -/
def NoZ (w : World) (S : Nat → Prop) : Prop := ∀ k, ¬ S k
theorem noZ : Lies NoZ := ⟨fun h _ _ => h, fun h k hk => absurd hk (h k)⟩
/-- A row. -/
structure RowZ (v : Value) (ys : List Value) (w : World) (S : Nat → Prop) : Prop where
  row : RowV 3 w 0 v ys
  blk : ∀ k, v.ownBlock = some k → S k
  lt : ∀ k, S k → k < w.heap.size
theorem rowZ (v : Value) (ys : List Value) : Lies (RowZ v ys) :=
  ⟨fun h hf hd => ⟨h.row.frN hf (fun k hk => hd k (h.blk k hk)), h.blk, fun k hk => Nat.lt_of_lt_of_le (h.lt k hk) hf.size⟩, fun h => h.lt⟩
/-- Another box. -/
def BoxZ (b c cap : Nat) (xs : List Int) (lost : Nat) (w : World) (S : Nat → Prop) : Prop := MBI w S b c cap xs lost
theorem boxZ (b c cap : Nat) (xs : List Int) (lost : Nat) : Lies (BoxZ b c cap xs lost) := ⟨fun h hf hd => MBox.keep h hf hd, fun h => MBox.lt h⟩
/-- All three. -/
structure TP (Z : World → (Nat → Prop) → Prop) (w0 w : World) (b c r cap : Nat) (xs : List Int) (l : Nat) (ys : List Int) (m : Nat) : Prop where
  own : ∃ S S2 S3, MBI w S b c cap xs l ∧ RB w S2 r cap ys m ∧ Z w S3 ∧ Dj S S2 ∧ Dj S S3 ∧ Dj S2 S3 ∧ From w0.heap.size S ∧ From w0.heap.size S2 ∧ From w0.heap.size S3
  below : Below w0.heap.size w0 w
section
variable {Z : World → (Nat → Prop) → Prop} {w0 w : World} {b c r cap l m : Nat} {xs ys : List Int}
theorem TP.put (hZ : Lies Z) (h : TP Z w0 w b c r cap xs l ys m) (x : Int) (hl : l ≤ 1000000) :
    Calls Try.prog 10 #[.pointer (some ⟨b, 0, none⟩), .int .i64 x] w fun e w' => e = .returned (.bool (decide (xs.length < cap))) ∧ TP Z w0 w' b c r cap (if xs.length < cap then xs ++ [x] else xs) (if xs.length < cap then l else l + 1) ys m := by
  obtain ⟨S, S2, S3, h1, h2, h3, d1, d2, d3, f1, f2, f3⟩ := h.own
  refine (putI h1 x hl).mono ?_
  rintro e w' ⟨rfl, S', h', hf, hs⟩
  have hBw := h.below.size
  exact ⟨rfl, ⟨S', S2, S3, h', h2.keep hf d1.symm.no, hZ.keep h3 hf d2.symm.no, d1.step hs h2.lt, d2.step hs (hZ.lt h3), d3, f1.step hs hBw, f2, f3⟩, Below.fr h.below hf f1 hBw⟩
theorem TP.take (hZ : Lies Z) {x : Int} (h : TP Z w0 w b c r cap (x :: xs) l ys m) :
    Calls Try.prog 12 #[.pointer (some ⟨b, 0, none⟩)] w fun e w' => e = .returned (.tuple #[.int .i64 x, .bool true]) ∧ TP Z w0 w' b c r cap xs l ys m := by
  obtain ⟨S, S2, S3, h1, h2, h3, d1, d2, d3, f1, f2, f3⟩ := h.own
  refine (takeI h1).mono ?_
  rintro e w' ⟨rfl, h', hf⟩
  exact ⟨rfl, ⟨S, S2, S3, h', h2.keep hf d1.symm.no, hZ.keep h3 hf d2.symm.no, d1, d2, d3, f1, f2, f3⟩, Below.fr h.below hf f1 h.below.size⟩
theorem TP.takeNo (h : TP Z w0 w b c r cap [] l ys m) :
    Calls Try.prog 12 #[.pointer (some ⟨b, 0, none⟩)] w fun e w' => e = .returned (.tuple #[.int .i64 0, .bool false]) ∧ w' = w := by
  obtain ⟨S, S2, S3, h1, _⟩ := h.own
  exact takeNoI h1
theorem TP.len (h : TP Z w0 w b c r cap xs l ys m) :
    Calls Try.prog 17 #[.pointer (some ⟨b, 0, none⟩)] w fun e w' => e = .returned (.int .i64 (xs.length : Nat)) ∧ w' = w := by
  obtain ⟨S, S2, S3, h1, _⟩ := h.own
  exact lenI h1
theorem TP.lost (h : TP Z w0 w b c r cap xs l ys m) :
    Calls Try.prog 18 #[.pointer (some ⟨b, 0, none⟩)] w fun e w' => e = .returned (.int .i64 (l : Nat)) ∧ w' = w := by
  obtain ⟨S, S2, S3, h1, _⟩ := h.own
  exact lostI h1
theorem TP.drain (h : TP Z w0 w b c r cap xs l ys m) (hcap : cap ≤ 4096) :
    Calls Try.prog 15 #[.pointer (some ⟨b, 0, none⟩)] w fun e w' => ∃ v, e = .returned v ∧ TP (RowZ v (xs.map vI)) w0 w' b c r cap [] l ys m ∧ ∀ o, w'.cell? ⟨r, o, none⟩ = w.cell? ⟨r, o, none⟩ := by
  obtain ⟨S, S2, S3, h1, h2, h3, d1, d2, d3, f1, f2, f3⟩ := h.own
  have l1 := h1.lt; have l2 := h2.lt
  refine (drainI h1 hcap).mono ?_
  rintro e w' ⟨⟨v, rfl, hv⟩, h', hf⟩
  have hBw := h.below.size
  refine ⟨v, rfl, ⟨⟨S, S2, fun k => v.ownBlock = some k, h', h2.keep hf d1.symm.no, ⟨hv.base (Nat.zero_le _), fun _ e => e, fun k hk => (hv.lt k hk).2⟩, d1, ⟨fun k hk e => ?_⟩, ⟨fun k hk e => ?_⟩, f1, f2, ⟨fun k hk => ?_⟩⟩, Below.fr h.below hf f1 hBw⟩, fun o => ?_⟩
  rotate_right
  · obtain ⟨_, hb⟩ := h2.box
    exact World.cell?_of_block (a := ⟨r, o, none⟩) (hf.block r (l2 r hb.inb) (d1.symm.no r hb.inb))
  · have := (hv.lt k e).1; have := l1 k hk; omega
  · have := (hv.lt k e).1; have := l2 k hk; omega
  · have := (hv.lt k hk).1; omega
theorem TP.refPut_room (hZ : Lies Z) (h : TP Z w0 w b c r cap xs l ys m) (x : Int) (hr : ys.length < cap) (hcap : cap ≤ 4096) :
    Calls Try.prog 11 #[.pointer (some ⟨r, 0, none⟩), .int .i64 x] w fun e w' => e = .returned (.bool true) ∧ TP Z w0 w' b c r cap xs l (ys ++ [x]) m := by
  obtain ⟨S, S2, S3, h1, h2, h3, d1, d2, d3, f1, f2, f3⟩ := h.own
  refine (Go.Proofs.Ytllojhhplfdgkaa.refPut_room h2 x hr hcap).mono ?_
  rintro e w' ⟨rfl, S', h', hf, hs⟩
  have hBw := h.below.size
  exact ⟨rfl, ⟨S, S', S3, MBox.keep h1 hf d1.no, h', hZ.keep h3 hf d3.symm.no, (d1.symm.step hs h1.lt).symm, d2, d3.step hs (hZ.lt h3), f1, f2.step hs hBw, f3⟩, Below.fr h.below hf f2 hBw⟩
theorem TP.refPut_full (hZ : Lies Z) (h : TP Z w0 w b c r cap xs l ys m) (x : Int) (hr : ¬ ys.length < cap) (hm : m ≤ 1000000) :
    Calls Try.prog 11 #[.pointer (some ⟨r, 0, none⟩), .int .i64 x] w fun e w' => e = .returned (.bool false) ∧ TP Z w0 w' b c r cap xs l ys (m + 1) := by
  obtain ⟨S, S2, S3, h1, h2, h3, d1, d2, d3, f1, f2, f3⟩ := h.own
  refine (Go.Proofs.Ytllojhhplfdgkaa.refPut_full h2 x hr hm).mono ?_
  rintro e w' ⟨rfl, h', hf⟩
  exact ⟨rfl, ⟨S, S2, S3, MBox.keep h1 hf d1.no, h', hZ.keep h3 hf d3.symm.no, d1, d2, d3, f1, f2, f3⟩, Below.fr h.below hf f2 h.below.size⟩
theorem TP.refPut (hZ : Lies Z) (h : TP Z w0 w b c r cap xs l ys m) (x : Int) (hcap : cap ≤ 4096) (hm : m ≤ 1000000) :
    Calls Try.prog 11 #[.pointer (some ⟨r, 0, none⟩), .int .i64 x] w fun e w' => e = .returned (.bool (decide (ys.length < cap))) ∧ TP Z w0 w' b c r cap xs l (if ys.length < cap then ys ++ [x] else ys) (if ys.length < cap then m else m + 1) := by
  by_cases hr : ys.length < cap
  · rw [decide_eq_true hr, if_pos hr, if_pos hr]; exact h.refPut_room hZ x hr hcap
  · rw [decide_eq_false hr, if_neg hr, if_neg hr]; exact h.refPut_full hZ x hr hm
theorem TP.refTake (hZ : Lies Z) {y : Int} (h : TP Z w0 w b c r cap xs l (y :: ys) m) (hcap : ys.length ≤ 4096) :
    Calls Try.prog 13 #[.pointer (some ⟨r, 0, none⟩)] w fun e w' => e = .returned (.tuple #[.int .i64 y, .bool true]) ∧ TP Z w0 w' b c r cap xs l ys m := by
  obtain ⟨S, S2, S3, h1, h2, h3, d1, d2, d3, f1, f2, f3⟩ := h.own
  refine (refTake_some h2 hcap).mono ?_
  rintro e w' ⟨rfl, S', h', hf, hs⟩
  have hBw := h.below.size
  exact ⟨rfl, ⟨S, S', S3, MBox.keep h1 hf d1.no, h', hZ.keep h3 hf d3.symm.no, (d1.symm.step hs h1.lt).symm, d2, d3.step hs (hZ.lt h3), f1, f2.step hs hBw, f3⟩, Below.fr h.below hf f2 hBw⟩
theorem TP.refTakeNo (h : TP Z w0 w b c r cap xs l [] m) :
    Calls Try.prog 13 #[.pointer (some ⟨r, 0, none⟩)] w fun e w' => e = .returned (.tuple #[.int .i64 0, .bool false]) ∧ w' = w := by
  obtain ⟨S, S2, S3, h1, h2, _⟩ := h.own
  exact refTake_none h2
theorem TP.refDrain (hZ : Lies Z) (h : TP Z w0 w b c r cap xs l ys m) :
    Calls Try.prog 16 #[.pointer (some ⟨r, 0, none⟩)] w fun e w' => (∃ p q, e = .returned (.slice p ys.length q) ∧ Arg w' p ys.length q (fun i => vI (ys.getD i 0))) ∧ TP Z w0 w' b c r cap xs l [] m := by
  obtain ⟨S, S2, S3, h1, h2, h3, d1, d2, d3, f1, f2, f3⟩ := h.own
  refine (Go.Proofs.Ytllojhhplfdgkaa.refDrain h2).mono ?_
  rintro e w' ⟨hv, h', hf⟩
  exact ⟨hv, ⟨S, S2, S3, MBox.keep h1 hf d1.no, h', hZ.keep h3 hf d3.symm.no, d1, d2, d3, f1, f2, f3⟩, Below.fr h.below hf f2 h.below.size⟩
/-- The third one's turn. -/
theorem TP.third (hZ : Lies Z) (h : TP Z w0 w b c r cap xs l ys m) {Z' : World → (Nat → Prop) → Prop} {f : FuncId} {args : Array Value} {R : Ending → Prop}
    (hc : ∀ S3, Z w S3 → Calls Try.prog f args w fun e w' => R e ∧ ∃ S', Z' w' S' ∧ Fr S3 w w' ∧ Sub w S3 S') : Calls Try.prog f args w fun e w' => R e ∧ TP Z' w0 w' b c r cap xs l ys m := by
  obtain ⟨S, S2, S3, h1, h2, h3, d1, d2, d3, f1, f2, f3⟩ := h.own
  refine (hc S3 h3).mono ?_
  rintro e w' ⟨hR, S', h', hf, hs⟩
  have hBw := h.below.size
  exact ⟨hR, ⟨S, S2, S', MBox.keep h1 hf d2.no, h2.keep hf d3.no, h', d1, (d2.symm.step hs h1.lt).symm, (d3.symm.step hs h2.lt).symm, f1, f2, f3.step hs hBw⟩, Below.fr h.below hf f3 hBw⟩
/-- The document's box as the code reads it. -/
theorem TP.cells (h : TP Z w0 w b c r cap xs l ys m) : (∃ p q, w.cell? ⟨r, 1, none⟩ = some (.slice p ys.length q) ∧ Arg w p ys.length q (fun i => vI (ys.getD i 0))) ∧ w.cell? ⟨r, 2, none⟩ = some (.int .i64 (m : Nat)) ∧ r < w.heap.size := by
  obtain ⟨S, S2, S3, h1, h2, _⟩ := h.own
  obtain ⟨v, hb⟩ := h2.box
  obtain ⟨c0, c1, c2, hlt⟩ := hb.cells
  have hrow : RowV 3 w 0 v (ys.map vI) := ⟨by rw [List.length_map]; exact hb.own, hb.one⟩
  obtain ⟨p, q, rfl, ha⟩ := hrow.arg (f := fun i => vI (ys.getD i 0)) (fun i hi => by rw [List.length_map] at hi; simp [hi])
  rw [List.length_map] at c1 ha
  exact ⟨⟨p, q, c1, ha⟩, c2, hlt⟩
theorem TP.row {v : Value} {zs : List Int} (h : TP (RowZ v (zs.map vI)) w0 w b c r cap xs l ys m) : ∃ p q, v = .slice p zs.length q ∧ Arg w p zs.length q (fun i => vI (zs.getD i 0)) := by
  obtain ⟨S, S2, S3, h1, h2, h3, _⟩ := h.own
  obtain ⟨p, q, hv, ha⟩ := h3.row.arg (f := fun i => vI (zs.getD i 0)) (fun i hi => by rw [List.length_map] at hi; simp [hi])
  rw [List.length_map] at hv ha
  exact ⟨p, q, hv, ha⟩
end
end Go.Proofs.Ytllojhhplfdgkaa
