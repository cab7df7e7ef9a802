/- Layer 1 (fix): Dot. -/
import Derived.Test.YtfgbkmcbpmmfdaaFixG
namespace Go.Proofs.Ytfgbkmcbpmmfdaa
open Go.RowKit
set_option linter.unusedVariables false

/-- The two sums in their boxes: of what is below 0, of what is above. -/
def Adds2 (c d : Nat) (w w' : World) (n m : Int) : Prop :=
  w'.os = w.os ∧ w'.tape = w.tape ∧ w'.output = w.output ∧ w.heap.size ≤ w'.heap.size ∧ (∀ k, k < w.heap.size → k ≠ c → k ≠ d → w'.heap[k]? = w.heap[k]?) ∧
  (w'.cell? ⟨c, 0, none⟩ = some (.int .u64 (hi64 n)) ∧ w'.cell? ⟨c, 1, none⟩ = some (.int .u64 (lo64 n)) ∧ w'.frozen? ⟨c, 0, none⟩ = false ∧ w'.frozen? ⟨c, 1, none⟩ = false) ∧
  (w'.cell? ⟨d, 0, none⟩ = some (.int .u64 (hi64 m)) ∧ w'.cell? ⟨d, 1, none⟩ = some (.int .u64 (lo64 m)) ∧ w'.frozen? ⟨d, 0, none⟩ = false ∧ w'.frozen? ⟨d, 1, none⟩ = false)
/-- A box of two words that may be written. -/
structure Box (w : World) (c : Nat) (n : Int) : Prop where
  lt : c < w.heap.size
  c0 : w.cell? ⟨c, 0, none⟩ = some (.int .u64 (hi64 n))
  c1 : w.cell? ⟨c, 1, none⟩ = some (.int .u64 (lo64 n))
  f0 : w.frozen? ⟨c, 0, none⟩ = false
  f1 : w.frozen? ⟨c, 1, none⟩ = false
theorem Box.keep {W w1 : World} {c : Nat} {n : Int} (h : Box W c n) (hb : Below W.heap.size W w1) : Box w1 c n :=
  ⟨Nat.lt_of_lt_of_le h.lt hb.size, keepCell hb h.lt h.c0, keepCell hb h.lt h.c1, keepFrozen hb h.lt h.f0, keepFrozen hb h.lt h.f1⟩
/-- The box that is written, and the other one. -/
theorem Box.set {w : World} {c d : Nat} {n m : Int} (hc : Box w c n) (hd : Box w d m) (hne : c ≠ d) (s t : Int) (e : s = t) :
    Box ((w.setCell ⟨c, 0, none⟩ (.int .u64 (hi64 s))).setCell ⟨c, 1, none⟩ (.int .u64 (lo64 s))) c t ∧ Box ((w.setCell ⟨c, 0, none⟩ (.int .u64 (hi64 s))).setCell ⟨c, 1, none⟩ (.int .u64 (lo64 s))) d m := by
  subst e
  obtain ⟨r0, r1⟩ := two_new (x := .int .u64 (hi64 s)) (y := .int .u64 (lo64 s)) hc.c0 hc.c1
  refine ⟨⟨by simpa [World.setCell] using hc.lt, r0, r1, ?_, ?_⟩, ⟨by simpa [World.setCell] using hd.lt, old_set (old_set hd.c0 hne.symm) hne.symm, old_set (old_set hd.c1 hne.symm) hne.symm, ?_, ?_⟩⟩
  · rw [World.frozen?_setCell, World.frozen?_setCell]; exact hc.f0
  · rw [World.frozen?_setCell, World.frozen?_setCell]; exact hc.f1
  · rw [World.frozen?_setCell, World.frozen?_setCell]; exact hd.f0
  · rw [World.frozen?_setCell, World.frozen?_setCell]; exact hd.f1
theorem Adds2.mk {c d : Nat} {w w' : World} {n m : Int} (hos : w'.os = w.os) (ht : w'.tape = w.tape) (ho : w'.output = w.output) (hs : w.heap.size ≤ w'.heap.size) (hk : ∀ k, k < w.heap.size → k ≠ c → k ≠ d → w'.heap[k]? = w.heap[k]?) (hc : Box w' c n) (hd : Box w' d m) : Adds2 c d w w' n m :=
  ⟨hos, ht, ho, hs, hk, ⟨hc.c0, hc.c1, hc.f0, hc.f1⟩, ⟨hd.c0, hd.c1, hd.f0, hd.f1⟩⟩
theorem Adds2.boxes {c d : Nat} {w w' : World} {n m : Int} (h : Adds2 c d w w' n m) (hc : c < w.heap.size) (hd : d < w.heap.size) : Box w' c n ∧ Box w' d m := by
  obtain ⟨_, _, _, hs, _, ⟨a, b, e, f⟩, ⟨p, q, r, s⟩⟩ := h
  exact ⟨⟨by omega, a, b, e, f⟩, ⟨by omega, p, q, r, s⟩⟩
theorem Adds2.trans {c d : Nat} {w w1 w2 : World} {n m n' m' : Int} (h : Adds2 c d w w1 n m) (k : Adds2 c d w1 w2 n' m') : Adds2 c d w w2 n' m' := by
  obtain ⟨a1, a2, a3, a4, a5, _⟩ := h
  obtain ⟨b1, b2, b3, b4, b5, b6⟩ := k
  exact ⟨b1.trans a1, b2.trans a2, b3.trans a3, Nat.le_trans a4 b4, fun i hi h1 h2 => (b5 i (by omega) h1 h2).trans (a5 i hi h1 h2), b6⟩
theorem Adds2.of_below {c d : Nat} {w w1 w2 : World} {n m : Int} (h : Below w.heap.size w w1) (k : Adds2 c d w1 w2 n m) : Adds2 c d w w2 n m := by
  obtain ⟨b1, b2, b3, b4, b5, b6⟩ := k
  exact ⟨b1.trans h.os, b2.trans h.tape, b3.trans h.output, Nat.le_trans h.size b4, fun i hi h1 h2 => (b5 i (by have := h.size; omega) h1 h2).trans (h.block i hi), b6⟩
theorem Adds2.below {c d B : Nat} {w w1 : World} {n m : Int} (h : Adds2 c d w w1 n m) (hB : B ≤ c) (hD : B ≤ d) (hw : B ≤ w.heap.size) : Below B w w1 :=
  ⟨h.1, h.2.1, h.2.2.1, h.2.2.2.1, fun k hk => h.2.2.2.2.1 k (by omega) (by omega) (by omega)⟩
theorem Adds2.cell {c d : Nat} {w w1 : World} {n m : Int} (h : Adds2 c d w w1 n m) {b o : Nat} {v : Value} (hb : b < w.heap.size) (h1 : b ≠ c) (h2 : b ≠ d) (hv : w.cell? ⟨b, o, none⟩ = some v) : w1.cell? ⟨b, o, none⟩ = some v :=
  (World.cell?_of_block (w := w) (h.2.2.2.2.1 b hb h1 h2)).trans hv

/-- What a pair adds below 0, and above. -/
def dn (x y : Int) : Int := if apartB x y then mag x * mag y else 0
def dp (x y : Int) : Int := if apartB x y then 0 else mag x * mag y

set_option maxHeartbeats 2000000 in
theorem dotFn (x y n m : Int) (c d : Nat) (hx : I64 x) (hy : I64 y) (hn : U128 n) (hm : U128 m) (sn : U128 (n + dn x y)) (sm : U128 (m + dp x y)) (hne : c ≠ d) (w : World) (hc : Box w c n) (hd : Box w d m) :
    Calls Try.prog 58 #[.int .i64 x, .int .i64 y, .pointer (some ⟨c, 0, none⟩), .pointer (some ⟨d, 0, none⟩)] w fun e w' => e = .returned (.tuple #[]) ∧ Adds2 c d w w' (n + dn x y) (m + dp x y) := by
  have hp := mul_u128 (mag_u64 hx) (mag_u64 hy)
  obtain ⟨ap, hap⟩ : ∃ ap, apartB x y = ap := ⟨_, rfl⟩
  have HA : Hid (apartB x y = ap) := hap
  have hapc : ∀ w, Calls Try.prog 47 #[.int .i64 x, .int .i64 y] w fun e w' => e = .returned (.bool ap) ∧ w' = w := fun w => hap ▸ fixApart x y w
  have HC : Hid (∀ w, Calls Try.prog 47 #[.int .i64 x, .int .i64 y] w fun e w' => e = .returned (.bool ap) ∧ w' = w) := hapc
  simp only [dn, dp, hap] at sn sm ⊢
  clear hap hapc
  cases ap
  · simp only [Bool.false_eq_true, if_false, Int.add_zero] at sn sm ⊢
    go_enter Try.func58, Try.ntmps58
    go_wp2_with fail
    refine (fixSize x hx _).mono ?_; rintro e w' ⟨rfl, rfl⟩
    go_wp2_with fail
    refine (fixSize y hy _).mono ?_; rintro e w' ⟨rfl, rfl⟩
    go_wp2_with fail
    refine (fixProduct _ _ (mag_u64 hx) (mag_u64 hy) _).mono ?_; rintro e w1 ⟨rfl, b1⟩
    go_wp2_with fail
    refine (HC.out _).mono ?_; rintro e w2 ⟨rfl, hw2⟩
    have b2 : Below w'.heap.size w' w2 := by rw [hw2]; exact b1.alloc (b1.size) _
    have hP0 : w2.cell? ⟨w1.heap.size, 0, none⟩ = some (.int .u64 (hi64 (mag x * mag y))) := by rw [hw2]; simp [go_sem]
    have hP1 : w2.cell? ⟨w1.heap.size, 1, none⟩ = some (.int .u64 (lo64 (mag x * mag y))) := by rw [hw2]; simp [go_sem]
    clear hw2
    have kc := hc.keep b2
    have kd := hd.keep b2
    have m0 := kd.c0
    have m1 := kd.c1
    go_wp2_with fail
    refine (fixPlus _ _ _ _ (hi64_u64 hm) (lo64_u64 _) (hi64_u64 hp) (lo64_u64 _) (by rw [join64, join64]; exact sm) _).mono ?_
    rintro e w3 ⟨rfl, b3⟩
    clear m0 m1 hP0 hP1
    have lc := kc.keep b3
    have ld := kd.keep b3
    have b23 := btrans b2 b3
    have m0 := ld.c0
    have m1 := ld.c1
    have m2 := ld.f0
    have m3 := ld.f1
    go_wp2
    go_end0
    obtain ⟨e1, e2⟩ := Box.set ld lc hne.symm (hi64 m * 18446744073709551616 + lo64 m + (hi64 (mag x * mag y) * 18446744073709551616 + lo64 (mag x * mag y))) (m + mag x * mag y) (by rw [join64, join64])
    exact ⟨rfl, Adds2.mk b23.os b23.tape b23.output (by simpa [World.setCell] using b23.size) (fun k hk h1 h2 => by rw [Below.heap_setCell _ _ _ _ h2, Below.heap_setCell _ _ _ _ h2]; exact b23.block k hk) e2 e1⟩
  · simp only [if_true, Int.add_zero] at sn sm ⊢
    go_enter Try.func58, Try.ntmps58
    go_wp2_with fail
    refine (fixSize x hx _).mono ?_; rintro e w' ⟨rfl, rfl⟩
    go_wp2_with fail
    refine (fixSize y hy _).mono ?_; rintro e w' ⟨rfl, rfl⟩
    go_wp2_with fail
    refine (fixProduct _ _ (mag_u64 hx) (mag_u64 hy) _).mono ?_; rintro e w1 ⟨rfl, b1⟩
    go_wp2_with fail
    refine (HC.out _).mono ?_; rintro e w2 ⟨rfl, hw2⟩
    have b2 : Below w'.heap.size w' w2 := by rw [hw2]; exact b1.alloc (b1.size) _
    have hP0 : w2.cell? ⟨w1.heap.size, 0, none⟩ = some (.int .u64 (hi64 (mag x * mag y))) := by rw [hw2]; simp [go_sem]
    have hP1 : w2.cell? ⟨w1.heap.size, 1, none⟩ = some (.int .u64 (lo64 (mag x * mag y))) := by rw [hw2]; simp [go_sem]
    clear hw2
    have kc := hc.keep b2
    have kd := hd.keep b2
    have m0 := kc.c0
    have m1 := kc.c1
    go_wp2_with fail
    refine (fixPlus _ _ _ _ (hi64_u64 hn) (lo64_u64 _) (hi64_u64 hp) (lo64_u64 _) (by rw [join64, join64]; exact sn) _).mono ?_
    rintro e w3 ⟨rfl, b3⟩
    clear m0 m1 hP0 hP1
    have lc := kc.keep b3
    have ld := kd.keep b3
    have b23 := btrans b2 b3
    have m0 := lc.c0
    have m1 := lc.c1
    have m2 := lc.f0
    have m3 := lc.f1
    go_wp2
    go_end0
    obtain ⟨e1, e2⟩ := Box.set lc ld hne (hi64 n * 18446744073709551616 + lo64 n + (hi64 (mag x * mag y) * 18446744073709551616 + lo64 (mag x * mag y))) (n + mag x * mag y) (by rw [join64, join64])
    exact ⟨rfl, Adds2.mk b23.os b23.tape b23.output (by simpa [World.setCell] using b23.size) (fun k hk h1 h2 => by rw [Below.heap_setCell _ _ _ _ h1, Below.heap_setCell _ _ _ _ h1]; exact b23.block k hk) e1 e2⟩

set_option maxHeartbeats 2000000 in
theorem alongDot (a1 a2 a3 b1 b2 b3 n m n1 m1 n2 m2 n3 m3 : Int) (c d : Nat) (h1 : I64 a1) (h2 : I64 a2) (h3 : I64 a3) (g1 : I64 b1) (g2 : I64 b2) (g3 : I64 b3) (hn : U128 n) (hm : U128 m)
    (E1 : Hid (n + dn a1 b1 = n1 ∧ m + dp a1 b1 = m1)) (E2 : Hid (n1 + dn a2 b2 = n2 ∧ m1 + dp a2 b2 = m2)) (E3 : Hid (n2 + dn a3 b3 = n3 ∧ m2 + dp a3 b3 = m3))
    (sn1 : U128 n1) (sm1 : U128 m1) (sn2 : U128 n2) (sm2 : U128 m2) (sn3 : U128 n3) (sm3 : U128 m3)
    (hne : c ≠ d) (w : World) (hc : Box w c n) (hd : Box w d m) :
    Calls Try.prog 57 #[.agg #[.int .i64 a1, .int .i64 a2, .int .i64 a3], .agg #[.int .i64 b1, .int .i64 b2, .int .i64 b3], .func (.func 58) #[] #[.pointer (some ⟨c, 0, none⟩), .pointer (some ⟨d, 0, none⟩)]] w fun e w' =>
      e = .returned (.tuple #[]) ∧ Adds2 c d w w' n3 m3 := by
  have lc := hc.lt
  have ld := hd.lt
  go_enter Try.func57, Try.ntmps57
  go_wp2_with fail
  generalize hW : ((w.alloc (.cells #[.int .i64 a1, .int .i64 a2, .int .i64 a3] 27)).alloc (.cells #[.int .i64 b1, .int .i64 b2, .int .i64 b3] 27)) = W
  have hB : Below w.heap.size w W := by rw [← hW]; exact ((Below.refl _ _).alloc (Nat.le_refl _) _).alloc (by simp) _
  have hsz : w.heap.size + 1 < W.heap.size := by rw [← hW]; simp
  have q1 : ∀ W1 : World, Adds2 c d W W1 n1 m1 → W1.cell? ⟨w.heap.size, 1, none⟩ = some (.int .i64 a2) ∧ W1.cell? ⟨w.heap.size + 1, 1, none⟩ = some (.int .i64 b2) := by
    intro W1 h
    refine ⟨h.cell (by omega) (by omega) (by omega) ?_, h.cell (by omega) (by omega) (by omega) ?_⟩ <;> (rw [← hW]; simp [go_sem])
  have q2 : ∀ W1 : World, Adds2 c d W W1 n2 m2 → W1.cell? ⟨w.heap.size, 2, none⟩ = some (.int .i64 a3) ∧ W1.cell? ⟨w.heap.size + 1, 2, none⟩ = some (.int .i64 b3) := by
    intro W1 h
    refine ⟨h.cell (by omega) (by omega) (by omega) ?_, h.cell (by omega) (by omega) (by omega) ?_⟩ <;> (rw [← hW]; simp [go_sem])
  have Q1 : Hid _ := q1
  have Q2 : Hid _ := q2
  clear hW q1 q2
  refine (dotFn a1 b1 n m c d h1 g1 hn hm (by rw [E1.out.1]; exact sn1) (by rw [E1.out.2]; exact sm1) hne W (hc.keep hB) (hd.keep hB)).mono ?_
  rintro e W1 ⟨rfl, A1⟩
  rw [E1.out.1, E1.out.2] at A1
  obtain ⟨x1, y1⟩ := Q1.out W1 A1
  obtain ⟨p1, p2⟩ := A1.boxes (by omega) (by omega)
  go_wp2_with fail
  refine (dotFn a2 b2 n1 m1 c d h2 g2 sn1 sm1 (by rw [E2.out.1]; exact sn2) (by rw [E2.out.2]; exact sm2) hne W1 p1 p2).mono ?_
  rintro e W2 ⟨rfl, A2⟩
  rw [E2.out.1, E2.out.2] at A2
  have A12 := A1.trans A2
  obtain ⟨x2, y2⟩ := Q2.out W2 A12
  obtain ⟨p3, p4⟩ := A12.boxes (by omega) (by omega)
  go_wp2_with fail
  refine (dotFn a3 b3 n2 m2 c d h3 g3 sn2 sm2 (by rw [E3.out.1]; exact sn3) (by rw [E3.out.2]; exact sm3) hne W2 p3 p4).mono ?_
  rintro e W3 ⟨rfl, A3⟩
  rw [E3.out.1, E3.out.2] at A3
  have A := Adds2.of_below hB (A12.trans A3)
  go_wp2
  go_end0
  exact ⟨rfl, A⟩

/-- The sums of all three. -/
def dnS (a1 a2 a3 b1 b2 b3 : Int) : Int := 0 + dn a1 b1 + dn a2 b2 + dn a3 b3
def dpS (a1 a2 a3 b1 b2 b3 : Int) : Int := 0 + dp a1 b1 + dp a2 b2 + dp a3 b3
def fdot (a1 a2 a3 b1 b2 b3 : Int) : Int :=
  if dpS a1 a2 a3 b1 b2 b3 < dnS a1 a2 a3 b1 b2 b3 then numb ((dnS a1 a2 a3 b1 b2 b3 - dpS a1 a2 a3 b1 b2 b3) / 65536) true else numb ((dpS a1 a2 a3 b1 b2 b3 - dnS a1 a2 a3 b1 b2 b3) / 65536) false
theorem mag_mul_bd {a b : Int} (ha : I64 a) (hb : I64 b) : 0 ≤ mag a * mag b ∧ mag a * mag b ≤ 85070591730234615865843651857942052864 := by
  have h0 := mag_nonneg a; have h1 := mag_le ha; have k0 := mag_nonneg b; have k1 := mag_le hb
  refine ⟨Int.mul_nonneg h0 k0, ?_⟩
  have : mag a * mag b ≤ 9223372036854775808 * 9223372036854775808 := Int.mul_le_mul h1 k1 k0 (by omega)
  omega
theorem dn_bd {a b : Int} (ha : I64 a) (hb : I64 b) : 0 ≤ dn a b ∧ dn a b ≤ 85070591730234615865843651857942052864 := by
  have := mag_mul_bd ha hb; unfold dn; split <;> omega
theorem dp_bd {a b : Int} (ha : I64 a) (hb : I64 b) : 0 ≤ dp a b ∧ dp a b ≤ 85070591730234615865843651857942052864 := by
  have := mag_mul_bd ha hb; unfold dp; split <;> omega

set_option maxHeartbeats 2000000 in
theorem fixDot (a1 a2 a3 b1 b2 b3 : Int) (h1 : I64 a1) (h2 : I64 a2) (h3 : I64 a3) (g1 : I64 b1) (g2 : I64 b2) (g3 : I64 b3) (w : World) :
    Calls Try.prog 34 #[.agg #[.int .i64 a1, .int .i64 a2, .int .i64 a3], .agg #[.int .i64 b1, .int .i64 b2, .int .i64 b3]] w fun e w' => e = .returned (.int .i64 (fdot a1 a2 a3 b1 b2 b3)) ∧ Below w.heap.size w w' := by
  have q1 := dn_bd h1 g1; have q2 := dn_bd h2 g2; have q3 := dn_bd h3 g3; have r1 := dp_bd h1 g1; have r2 := dp_bd h2 g2; have r3 := dp_bd h3 g3
  obtain ⟨n1, hn1⟩ : ∃ n1, 0 + dn a1 b1 = n1 := ⟨_, rfl⟩
  obtain ⟨n2, hn2⟩ : ∃ n2, n1 + dn a2 b2 = n2 := ⟨_, rfl⟩
  obtain ⟨n3, hn3⟩ : ∃ n3, n2 + dn a3 b3 = n3 := ⟨_, rfl⟩
  obtain ⟨m1, hm1⟩ : ∃ m1, 0 + dp a1 b1 = m1 := ⟨_, rfl⟩
  obtain ⟨m2, hm2⟩ : ∃ m2, m1 + dp a2 b2 = m2 := ⟨_, rfl⟩
  obtain ⟨m3, hm3⟩ : ∃ m3, m2 + dp a3 b3 = m3 := ⟨_, rfl⟩
  have sn1 : U128 n1 := ⟨by omega, by omega⟩
  have sn2 : U128 n2 := ⟨by omega, by omega⟩
  have sn3 : U128 n3 := ⟨by omega, by omega⟩
  have sm1 : U128 m1 := ⟨by omega, by omega⟩
  have sm2 : U128 m2 := ⟨by omega, by omega⟩
  have sm3 : U128 m3 := ⟨by omega, by omega⟩
  have hfd : fdot a1 a2 a3 b1 b2 b3 = if m3 < n3 then numb ((n3 - m3) / 65536) true else numb ((m3 - n3) / 65536) false := by
    unfold fdot dnS dpS; rw [hn1, hn2, hn3, hm1, hm2, hm3]
  have E1 : Hid (0 + dn a1 b1 = n1 ∧ 0 + dp a1 b1 = m1) := ⟨hn1, hm1⟩
  have E2 : Hid (n1 + dn a2 b2 = n2 ∧ m1 + dp a2 b2 = m2) := ⟨hn2, hm2⟩
  have E3 : Hid (n2 + dn a3 b3 = n3 ∧ m2 + dp a3 b3 = m3) := ⟨hn3, hm3⟩
  rw [hfd]
  clear q1 q2 q3 r1 r2 r3 hn1 hn2 hn3 hm1 hm2 hm3 hfd
  have hnb := sn3.lo; have hnb' := sn3.hi; have hmb := sm3.lo; have hmb' := sm3.hi
  by_cases hlt : m3 < n3
  · rw [if_pos hlt]
    have sd : U128 (n3 - m3) := ⟨by omega, by omega⟩
    have sw : U128 ((n3 - m3) / 65536) := ⟨by omega, by omega⟩
    have HG : Hid (true = decide (hi64 m3 * 18446744073709551616 + lo64 m3 < n3)) := by rw [join64]; exact (decide_eq_true hlt).symm
    clear hnb hnb' hmb hmb' hlt
    go_enter Try.func34, Try.ntmps34
    go_wp2_with fail
    refine (alongDot a1 a2 a3 b1 b2 b3 0 0 n1 m1 n2 m2 n3 m3 (w.heap.size + 1 + 1 + 1) (w.heap.size + 1 + 1) h1 h2 h3 g1 g2 g3 u128_0 u128_0 E1 E2 E3 sn1 sm1 sn2 sm2 sn3 sm3 (by omega) _
      ⟨by simp, by simp [go_sem, hi64], by simp [go_sem, lo64], by simp [go_sem], by simp [go_sem]⟩ ⟨by simp, by simp [go_sem, hi64], by simp [go_sem, lo64], by simp [go_sem], by simp [go_sem]⟩).mono ?_
    rintro e W ⟨rfl, A⟩
    have hb : Below w.heap.size w W := Below.trans (((((Below.refl _ _).alloc (Nat.le_refl _) _).alloc (by simp) _).alloc (by simp; omega) _).alloc (by simp; omega) _) (A.below (by omega) (by omega) (by simp; omega))
    obtain ⟨B1, B2⟩ := A.boxes (by simp) (by simp)
    clear A
    have c0 := B1.c0; have c1 := B1.c1; have d0 := B2.c0; have d1 := B2.c1
    go_wp2_with fail
    refine (fixGreaterN n3 _ _ sn3 (hi64_u64 sm3) (lo64_u64 _) true HG _).mono ?_
    rintro e W2 ⟨rfl, b2⟩
    clear c0 c1 d0 d1
    have hb2 := btrans hb b2
    have B1 := B1.keep b2; have B2 := B2.keep b2
    have c0 := B1.c0; have c1 := B1.c1; have d0 := B2.c0; have d1 := B2.c1
    go_wp2_with fail
    refine (fixMinus _ _ _ _ (hi64_u64 sn3) (lo64_u64 _) (hi64_u64 sm3) (lo64_u64 _) (by rw [join64, join64]; exact sd) _).mono ?_
    rintro e W3 ⟨rfl, b3⟩
    rw [join64, join64]
    go_wp2_with fail
    refine (fixWhole _ _ (hi64_u64 sd) (lo64_u64 _) _).mono ?_
    rintro e W4 ⟨rfl, b4⟩
    rw [join64]
    go_wp2_with fail
    refine (fixNumber _ _ _ (hi64_u64 sw) (lo64_u64 _) _).mono ?_
    rintro e W5 ⟨rfl, b5⟩
    rw [join64]
    go_wp2
    go_ret
    exact ⟨rfl, btrans (btrans (btrans hb2 b3) b4) b5⟩
  · rw [if_neg hlt]
    have sd : U128 (m3 - n3) := ⟨by omega, by omega⟩
    have sw : U128 ((m3 - n3) / 65536) := ⟨by omega, by omega⟩
    have HG : Hid (false = decide (hi64 m3 * 18446744073709551616 + lo64 m3 < n3)) := by rw [join64]; exact (decide_eq_false hlt).symm
    clear hnb hnb' hmb hmb' hlt
    go_enter Try.func34, Try.ntmps34
    go_wp2_with fail
    refine (alongDot a1 a2 a3 b1 b2 b3 0 0 n1 m1 n2 m2 n3 m3 (w.heap.size + 1 + 1 + 1) (w.heap.size + 1 + 1) h1 h2 h3 g1 g2 g3 u128_0 u128_0 E1 E2 E3 sn1 sm1 sn2 sm2 sn3 sm3 (by omega) _
      ⟨by simp, by simp [go_sem, hi64], by simp [go_sem, lo64], by simp [go_sem], by simp [go_sem]⟩ ⟨by simp, by simp [go_sem, hi64], by simp [go_sem, lo64], by simp [go_sem], by simp [go_sem]⟩).mono ?_
    rintro e W ⟨rfl, A⟩
    have hb : Below w.heap.size w W := Below.trans (((((Below.refl _ _).alloc (Nat.le_refl _) _).alloc (by simp) _).alloc (by simp; omega) _).alloc (by simp; omega) _) (A.below (by omega) (by omega) (by simp; omega))
    obtain ⟨B1, B2⟩ := A.boxes (by simp) (by simp)
    clear A
    have c0 := B1.c0; have c1 := B1.c1; have d0 := B2.c0; have d1 := B2.c1
    go_wp2_with fail
    refine (fixGreaterN n3 _ _ sn3 (hi64_u64 sm3) (lo64_u64 _) false HG _).mono ?_
    rintro e W2 ⟨rfl, b2⟩
    clear c0 c1 d0 d1
    have hb2 := btrans hb b2
    have B1 := B1.keep b2; have B2 := B2.keep b2
    have c0 := B1.c0; have c1 := B1.c1; have d0 := B2.c0; have d1 := B2.c1
    go_wp2_with fail
    refine (fixMinus _ _ _ _ (hi64_u64 sm3) (lo64_u64 _) (hi64_u64 sn3) (lo64_u64 _) (by rw [join64, join64]; exact sd) _).mono ?_
    rintro e W3 ⟨rfl, b3⟩
    rw [join64, join64]
    go_wp2_with fail
    refine (fixWhole _ _ (hi64_u64 sd) (lo64_u64 _) _).mono ?_
    rintro e W4 ⟨rfl, b4⟩
    rw [join64]
    go_wp2_with fail
    refine (fixNumber _ _ _ (hi64_u64 sw) (lo64_u64 _) _).mono ?_
    rintro e W5 ⟨rfl, b5⟩
    rw [join64]
    go_wp2
    go_ret
    exact ⟨rfl, btrans (btrans (btrans hb2 b3) b4) b5⟩
end Go.Proofs.Ytfgbkmcbpmmfdaa
