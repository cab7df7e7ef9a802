/- Layer 5 (message): the three ways: what checks, what writes, what reads. -/
import Derived.Test.YtkmiogaklmgnkaaMsB
namespace Go.Proofs.Ytkmiogaklmgnkaa
open Go.RowKit Go.Shelf
set_option linter.unusedVariables false
set_option linter.unusedSimpArgs false
attribute [local go_sem ↓] Go.wp_at_zero Go.wp_at_succ

/-- What checks: a box with a bool. -/
def ckAt (b : Nat) (s : Bool) (S : Nat → Prop) (w : World) : Prop := Bq w b 69 #[.bool s] ∧ S b ∧ ∀ k, S k → k < w.heap.size
set_option maxRecDepth 100000 in
theorem ckNum {b : Nat} {s : Bool} {S : Nat → Prop} {w : World} (n : Int) (r : Rm) (h : ckAt b s S w) :
    Calls Try.prog 94 #[.pointer (some ⟨b, 0, none⟩), .int .i64 n, rmV r] w fun e w' => e = .returned (.int .i64 (Pg.ckS false s n r).1) ∧ ∃ S', ckAt b (Pg.ckS false s n r).2 S' w' ∧ Fr S w w' ∧ Sub w S S' := by
  obtain ⟨h1, h2, h3⟩ := h
  have hh := hasF r n (w.alloc (.cells #[.int .i64 (r.bits : Int), .int .i64 r.least, .int .i64 r.most] 62))
  have hb := h1.lt
  have A := (h1.alloc (.cells #[.int .i64 (r.bits : Int), .int .i64 r.least, .int .i64 r.most] 62))
  unfold Pg.ckS
  unfold rmV at *
  by_cases hr : r.has n
  · rw [if_pos hr]
    rw [decide_eq_true hr] at hh
    dsimp only
    go_enter Try.func94, Try.ntmps94
    go_wp2_with fail
    refine hh.mono ?_
    rintro e u ⟨rfl, hB⟩
    dsimp only
    have HB := hid hB
    clear hB hh
    go_wp2_with fail
    go_ret
    have hf : Fr (fun _ => False) w u := ((Fr.refl _ _).alloc _).trans (Fr.of_below (fun _ => False) HB.out) (fun _ _ e => e)
    exact ⟨rfl, S, ⟨A.below HB.out, h2, fun k hk => Nat.lt_of_lt_of_le (h3 k hk) hf.size⟩, hf.mono (fun _ _ e => e.elim), fun k hk => .inl hk⟩
  · rw [if_neg hr]
    rw [decide_eq_false hr] at hh
    dsimp only
    go_enter Try.func94, Try.ntmps94
    go_wp2_with fail
    refine hh.mono ?_
    rintro e u ⟨rfl, hB⟩
    dsimp only
    have hf : Fr (fun _ => False) w u := ((Fr.refl _ _).alloc _).trans (Fr.of_below (fun _ => False) hB) (fun _ _ e => e)
    have A' := A.below hB
    have c0 := A'.cell (i := 0) rfl
    have ft := A'.thaw 0
    have HA := hid A'; have HF := hid hf
    clear hB hh A A' hf h1
    go_wp2_with fail
    go_ret
    have hs := HF.out.size
    refine ⟨rfl, S, ⟨?_, h2, fun k hk => ?_⟩, ?_, fun k hk => .inl hk⟩
    · have := HA.out.set 0 (.bool true)
      simp only [List.setIfInBounds_toArray, List.set_cons_zero] at this
      exact this
    · have := h3 k hk; simp [World.setCell]; omega
    · exact (HF.out.mono (fun _ _ e => e.elim)).setCell (p := ⟨b, 0, none⟩) h2 _
set_option maxRecDepth 100000 in
theorem ckSgn {b : Nat} {s : Bool} {S : Nat → Prop} {w : World} (n : Int) (r : Rm) (h : ckAt b s S w) :
    Calls Try.prog 95 #[.pointer (some ⟨b, 0, none⟩), .int .i64 n, rmV r] w fun e w' => e = .returned (.int .i64 (Pg.ckS true s n r).1) ∧ ∃ S', ckAt b (Pg.ckS true s n r).2 S' w' ∧ Fr S w w' ∧ Sub w S S' := by
  have hc : ckAt b s S (w.alloc (.cells #[.int .i64 (r.bits : Int), .int .i64 r.least, .int .i64 r.most] 62)) := ⟨h.1.alloc _, h.2.1, fun k hk => by have := h.2.2 k hk; simp; omega⟩
  have hn := ckNum n r hc
  show Calls _ _ _ _ fun e w' => e = .returned (.int .i64 (Pg.ckS false s n r).1) ∧ ∃ S', ckAt b (Pg.ckS false s n r).2 S' w' ∧ Fr S w w' ∧ Sub w S S'
  generalize Pg.ckS false s n r = q at *
  unfold rmV at *
  clear h hc
  go_enter Try.func95, Try.ntmps95
  go_wp2_with fail
  refine hn.mono ?_
  rintro e u ⟨rfl, S', g1, g2, g3⟩
  dsimp only
  have G1 := hid (g1); have G2 := hid g2; have G3 := hid g3
  clear g1 g2 g3 hn
  go_wp2_with fail
  go_ret
  refine ⟨rfl, S', G1.out, ((Fr.refl _ _).alloc _).trans G2.out (fun _ _ e => e), fun k hk => (G3.out k hk).imp id (fun e => ?_)⟩
  simp at e; omega
theorem ck_res (g : Bool) (s : Bool) (n : Int) (r : Rm) : (Pg.ckS g s n r).1 = n ∨ (Pg.ckS g s n r).1 = 0 ∨ r.has (Pg.ckS g s n r).1 := by
  unfold Pg.ckS; split
  · exact .inl rfl
  · exact .inr (.inl rfl)
theorem ck_res2 (g : Bool) (s : Bool) (n : Int) (r : Rm) : (Pg.ckS g s n r).1 = 0 ∨ r.has (Pg.ckS g s n r).1 := by
  unfold Pg.ckS
  split
  · rename_i h; exact .inr h
  · exact .inl rfl
def ckW (b : Nat) : Way Bool where
  T := 67
  b := b
  f g := if g then 95 else 94
  step := Pg.ckS
  At := ckAt b
  ok _ := True
  lt h := h.2.2
  keep h hf hd := ⟨h.1.same (hf.block b h.1.lt (hd b h.2.1)), h.2.1, fun k hk => Nat.lt_of_lt_of_le (h.2.2 k hk) hf.size⟩
  goes g n r h _ := by
    cases g
    · exact ckNum n r h
    · exact ckSgn n r h
  res := ck_res
  tight := True
  res2 _ := ck_res2
  method g w := by cases g <;> kernel_rfl
  enters g args w := by cases g <;> kernel_rfl
/-- What writes: a box with a writer. -/
def wrapN (n : Int) : Nat := (n % 2 ^ 64).toNat
theorem u64_wrapN (n : Int) : IntKind.u64.wrap n = ((n % 2 ^ 64).toNat : Nat) := by
  unfold IntKind.wrap; simp [IntKind.signed, IntKind.bits]; omega
set_option maxRecDepth 100000 in
theorem wrNum {b : Nat} {s : List Bool} {S : Nat → Prop} {w : World} (n : Int) (r : Rm) (h : WrAt w S b s) (hl : s.length ≤ 700000) :
    Calls Try.prog 23 #[.pointer (some ⟨b, 0, none⟩), .int .i64 n, rmV r] w fun e w' => e = .returned (.int .i64 n) ∧ ∃ S', WrAt w' S' b (s ++ bitsN n r) ∧ Fr S w w' ∧ Sub w S S' := by
  have hw := u64_wrapN n
  have hk := fun u (hB : Below w.heap.size w u) => put S b s (n % 2 ^ 64).toNat (r.bits : Int) u (h.below hB) hl
  have hc : cnt (r.bits : Int) = r.bits := cnt_nat (by have := r.few; omega)
  rw [hc] at hk
  have hS : ¬ S w.heap.size := fun e => by have := h.lt _ e; omega
  unfold bitsN rmV
  obtain ⟨N, hN⟩ : ∃ N : Nat, (n % 2 ^ 64).toNat = N := ⟨_, rfl⟩
  rw [hN] at hw hk ⊢
  clear h hc hN
  go_enter Try.func23, Try.ntmps23
  go_wp2_with fail
  have A := (Bq.new w 62 #[.int .i64 (r.bits : Int), .int .i64 r.least, .int .i64 r.most]).below (below_drewN _ 1)
  have HB := hid (((Below.refl w.heap.size w).alloc (Nat.le_refl _) (.cells #[.int .i64 (r.bits : Int), .int .i64 r.least, .int .i64 r.most] 62)).trans (below_drewN _ 1))
  refine region_held (fun u => u.cell? ⟨w.heap.size, 0, none⟩ = some (.int .i64 (r.bits : Int))) 8 rfl (by kernel_rfl) (A.cell (i := 0) rfl) ?_
  have HA := hid A
  clear A
  intro hHeld
  refine takeO 0 (some 7) (v := ?v1) rfl rfl (by kernel_rfl) (by kernel_rfl) (by kernel_rfl) (Or.inl ⟨by rfl, ?y1⟩) hHeld ?r1
  case y1 => (intro w' hSw; (try dsimp only at hSw); go_simp; try with_reducible rfl)
  try simp only [Act.put, List.setIfInBounds_toArray, List.set_cons_zero, List.set_cons_succ]
  refine takeO 1 (some 8) (v := ?v2) rfl rfl (by kernel_rfl) (by kernel_rfl) (by kernel_rfl) (Or.inl ⟨by rfl, ?y2⟩) hHeld ?r2
  case y2 => (intro w' hSw; (try dsimp only at hSw); go_simp; try with_reducible rfl)
  try simp only [Act.put, List.setIfInBounds_toArray, List.set_cons_zero, List.set_cons_succ]
  refine takeO 2 (some 9) (v := ?v3) rfl rfl (by kernel_rfl) (by kernel_rfl) (by kernel_rfl) (Or.inl ⟨by rfl, ?y3⟩) hHeld ?r3
  case y3 => (intro w' hSw; (try dsimp only at hSw); go_simp; try with_reducible rfl)
  try simp only [Act.put, List.setIfInBounds_toArray, List.set_cons_zero, List.set_cons_succ]
  refine takeO 3 (some 10) (v := ?v4) rfl rfl (by kernel_rfl) (by kernel_rfl) (by kernel_rfl) (Or.inl ⟨by rfl, ?y4⟩) hHeld ?r4
  case y4 => (intro w' hSw; (try dsimp only at hSw); go_simp; try with_reducible rfl)
  try simp only [Act.put, List.setIfInBounds_toArray, List.set_cons_zero, List.set_cons_succ]
  refine takeO 4 (some 11) (v := ?v5) rfl rfl (by kernel_rfl) (by kernel_rfl) (by kernel_rfl) (Or.inl ⟨by rfl, ?y5⟩) hHeld ?r5
  case y5 => (intro w' hSw; (try dsimp only at hSw); go_simp; try with_reducible rfl)
  try simp only [Act.put, List.setIfInBounds_toArray, List.set_cons_zero, List.set_cons_succ]
  refine takeO 5 (some 12) (v := ?v6) rfl rfl (by kernel_rfl) (by kernel_rfl) (by kernel_rfl) (Or.inl ⟨by rfl, ?y6⟩) hHeld ?r6
  case y6 => (intro w' hSw; (try dsimp only at hSw); go_simp; try with_reducible rfl)
  try simp only [Act.put, List.setIfInBounds_toArray, List.set_cons_zero, List.set_cons_succ]
  refine takeO 6 (some 13) (v := ?v7) rfl rfl (by kernel_rfl) (by kernel_rfl) (by kernel_rfl) (Or.inl ⟨by rfl, ?y7⟩) hHeld ?r7
  case y7 => (intro w' hSw; (try dsimp only at hSw); go_simp; try with_reducible rfl)
  try simp only [Act.put, List.setIfInBounds_toArray, List.set_cons_zero, List.set_cons_succ]
  refine wpAnyH_ready (rs := [7]) (by kernel_rfl) (by simp) ?_
  refine AllReadyH.cons rfl (fun K hK => ?_) AllReadyH.nil
  go_simp
  refine (hk _ HB.out).mono ?_
  rintro e u ⟨rfl, S', g1, g2, g3⟩
  dsimp only
  have HG1 := hid g1
  have HG2 : Hid (Fr S w u) := hid ((Fr.of_below S HB.out).trans g2 (fun _ _ e => e))
  have HG3 : Hid (Sub w S S') := hid (fun k hk => (g3 k hk).imp id (fun e => Nat.le_trans HB.out.size e))
  refine hK.out _ _ ((HA.out.same (g2.block _ HA.out.lt hS)).cell (i := 0) rfl) (fun hHeld => ?_)
  clear hK K hHeld g1 g2 g3 hk HA
  refine wpAnyH_done (by kernel_rfl) (Only.on ?_) _
  go_wp2_with fail
  go_ret
  exact ⟨rfl, S', HG1.out, HG2.out, HG3.out⟩
set_option maxRecDepth 100000 in
theorem wrSgn {b : Nat} {s : List Bool} {S : Nat → Prop} {w : World} (n : Int) (r : Rm) (h : WrAt w S b s) (hl : s.length ≤ 700000) :
    Calls Try.prog 92 #[.pointer (some ⟨b, 0, none⟩), .int .i64 n, rmV r] w fun e w' => e = .returned (.int .i64 n) ∧ ∃ S', WrAt w' S' b (s ++ bitsN n r) ∧ Fr S w w' ∧ Sub w S S' := by
  have hw := u64_wrapN n
  have hk := fun u (hB : Below w.heap.size w u) => signW S b s (n % 2 ^ 64).toNat n (r.bits : Int) u (h.below hB) hl hw
  have hc : cnt (r.bits : Int) = r.bits := cnt_nat (by have := r.few; omega)
  rw [hc] at hk
  have hS : ¬ S w.heap.size := fun e => by have := h.lt _ e; omega
  unfold bitsN rmV
  obtain ⟨N, hN⟩ : ∃ N : Nat, (n % 2 ^ 64).toNat = N := ⟨_, rfl⟩
  rw [hN] at hw hk ⊢
  clear h hc hN
  go_enter Try.func92, Try.ntmps92
  go_wp2_with fail
  have A := (Bq.new w 62 #[.int .i64 (r.bits : Int), .int .i64 r.least, .int .i64 r.most]).below (below_drewN _ 1)
  have HB := hid (((Below.refl w.heap.size w).alloc (Nat.le_refl _) (.cells #[.int .i64 (r.bits : Int), .int .i64 r.least, .int .i64 r.most] 62)).trans (below_drewN _ 1))
  refine region_held (fun u => u.cell? ⟨w.heap.size, 0, none⟩ = some (.int .i64 (r.bits : Int))) 7 rfl (by kernel_rfl) (A.cell (i := 0) rfl) ?_
  have HA := hid A
  clear A
  intro hHeld
  refine takeO 0 (some 7) (v := ?v8) rfl rfl (by kernel_rfl) (by kernel_rfl) (by kernel_rfl) (Or.inl ⟨by rfl, ?y8⟩) hHeld ?r8
  case y8 => (intro w' hSw; (try dsimp only at hSw); go_simp; try with_reducible rfl)
  try simp only [Act.put, List.setIfInBounds_toArray, List.set_cons_zero, List.set_cons_succ]
  refine takeO 1 (some 8) (v := ?v9) rfl rfl (by kernel_rfl) (by kernel_rfl) (by kernel_rfl) (Or.inl ⟨by rfl, ?y9⟩) hHeld ?r9
  case y9 => (intro w' hSw; (try dsimp only at hSw); go_simp; try with_reducible rfl)
  try simp only [Act.put, List.setIfInBounds_toArray, List.set_cons_zero, List.set_cons_succ]
  refine takeO 2 (some 9) (v := ?v10) rfl rfl (by kernel_rfl) (by kernel_rfl) (by kernel_rfl) (Or.inl ⟨by rfl, ?y10⟩) hHeld ?r10
  case y10 => (intro w' hSw; (try dsimp only at hSw); go_simp; try with_reducible rfl)
  try simp only [Act.put, List.setIfInBounds_toArray, List.set_cons_zero, List.set_cons_succ]
  refine takeO 3 (some 10) (v := ?v11) rfl rfl (by kernel_rfl) (by kernel_rfl) (by kernel_rfl) (Or.inl ⟨by rfl, ?y11⟩) hHeld ?r11
  case y11 => (intro w' hSw; (try dsimp only at hSw); go_simp; try with_reducible rfl)
  try simp only [Act.put, List.setIfInBounds_toArray, List.set_cons_zero, List.set_cons_succ]
  refine takeO 4 (some 11) (v := ?v12) rfl rfl (by kernel_rfl) (by kernel_rfl) (by kernel_rfl) (Or.inl ⟨by rfl, ?y12⟩) hHeld ?r12
  case y12 => (intro w' hSw; (try dsimp only at hSw); go_simp; try with_reducible rfl)
  try simp only [Act.put, List.setIfInBounds_toArray, List.set_cons_zero, List.set_cons_succ]
  refine takeO 5 (some 12) (v := ?v13) rfl rfl (by kernel_rfl) (by kernel_rfl) (by kernel_rfl) (Or.inl ⟨by rfl, ?y13⟩) hHeld ?r13
  case y13 => (intro w' hSw; (try dsimp only at hSw); go_simp; try with_reducible rfl)
  try simp only [Act.put, List.setIfInBounds_toArray, List.set_cons_zero, List.set_cons_succ]
  refine wpAnyH_ready (rs := [6]) (by kernel_rfl) (by simp) ?_
  refine AllReadyH.cons rfl (fun K hK => ?_) AllReadyH.nil
  go_simp
  refine (hk _ HB.out).mono ?_
  rintro e u ⟨rfl, S', g1, g2, g3⟩
  dsimp only
  have HG1 := hid g1
  have HG2 : Hid (Fr S w u) := hid ((Fr.of_below S HB.out).trans g2 (fun _ _ e => e))
  have HG3 : Hid (Sub w S S') := hid (fun k hk => (g3 k hk).imp id (fun e => Nat.le_trans HB.out.size e))
  refine hK.out _ _ ((HA.out.same (g2.block _ HA.out.lt hS)).cell (i := 0) rfl) (fun hHeld => ?_)
  clear hK K hHeld g1 g2 g3 hk HA
  refine wpAnyH_done (by kernel_rfl) (Only.on ?_) _
  go_wp2_with fail
  go_ret
  exact ⟨rfl, S', HG1.out, HG2.out, HG3.out⟩
def wrW (b : Nat) : Way (List Bool) where
  T := 55
  b := b
  f g := if g then 92 else 23
  step := Pg.wrS
  At s S w := WrAt w S b s
  ok s := s.length ≤ 700000
  lt h := h.lt
  keep h hf hd := h.keep hf hd
  goes g n r h hl := by
    cases g
    · exact wrNum n r h hl
    · exact wrSgn n r h hl
  res g s n r := .inl rfl
  tight := False
  res2 h := h.elim
  method g w := by cases g <;> kernel_rfl
  enters g args w := by cases g <;> kernel_rfl
/-- What reads: a box with a reader's address and an error. -/
def rdAt (b : Nat) (s : List Bool × Int) (S : Nat → Prop) (w : World) : Prop := ∃ rb Sr, Bq w b 77 #[.pointer (some ⟨rb, 0, none⟩), .int .i64 s.2] ∧ RdAt w Sr rb s.1 ∧ (∀ k, Sr k → S k ∧ k ≠ b) ∧ S b ∧ ∀ k, S k → k < w.heap.size
theorem rdAt.lt {b : Nat} {s : List Bool × Int} {S : Nat → Prop} {w : World} (h : rdAt b s S w) : ∀ k, S k → k < w.heap.size := by
  obtain ⟨rb, Sr, h1, h2, h3, h4, h5⟩ := h; exact h5
theorem rdAt.keep {b : Nat} {s : List Bool × Int} {S S' : Nat → Prop} {w w' : World} (h : rdAt b s S w) (hf : Fr S' w w') (hd : ∀ k, S k → ¬ S' k) : rdAt b s S w' := by
  obtain ⟨rb, Sr, h1, h2, h3, h4, h5⟩ := h
  exact ⟨rb, Sr, h1.same (hf.block b h1.lt (hd b h4)), h2.keep hf (fun k hk => hd k (h3 k hk).1), h3, h4, fun k hk => Nat.lt_of_lt_of_le (h5 k hk) hf.size⟩
/-- What is taken of what was got. -/
def tookS (x : Int) (is : Bool) (r : Rm) : Int × Int := if is then if r.has x then (x, 0) else (0, 3) else (0, 2)
set_option maxRecDepth 100000 in
theorem rdTook {b : Nat} {rb : Value} {w : World} (x : Int) (is : Bool) (r : Rm) (h : Bq w b 77 #[rb, .int .i64 0]) :
    Calls Try.prog 57 #[.pointer (some ⟨b, 0, none⟩), .int .i64 x, .bool is, rmV r] w fun e w' => e = .returned (.int .i64 (tookS x is r).1) ∧ Bq w' b 77 #[rb, .int .i64 (tookS x is r).2] ∧ Fr (fun k => k = b) w w' := by
  have hlt := h.lt
  have A := (h.alloc (.cells #[.int .i64 (r.bits : Int), .int .i64 r.least, .int .i64 r.most] 62))
  have c1 := A.cell (i := 1) rfl
  have ft := A.thaw 1
  have hh := hasF r x (w.alloc (.cells #[.int .i64 (r.bits : Int), .int .i64 r.least, .int .i64 r.most] 62))
  unfold tookS
  unfold rmV at *
  have HA := hid A
  have hF0 : Fr (fun k => k = b) w (w.alloc (.cells #[.int .i64 (r.bits : Int), .int .i64 r.least, .int .i64 r.most] 62)) := (Fr.refl _ _).alloc _
  have HF := hid hF0
  have fu := h.thaw 1
  have H := hid h
  clear A h hF0
  cases is
  · rw [if_neg (by decide)]
    clear hh
    go_enter Try.func57, Try.ntmps57
    go_wp2_with fail
    go_ret
    refine ⟨rfl, ?_, ((Fr.refl (fun k => k = b) w).setCell (p := ⟨b, 1, none⟩) rfl _).alloc _⟩
    have := H.out.set 1 (.int .i64 2)
    simp only [List.setIfInBounds_toArray, List.set_cons_zero, List.set_cons_succ] at this
    exact this.alloc _
  · rw [if_pos rfl]
    by_cases hr : r.has x
    · rw [if_pos hr]
      rw [decide_eq_true hr] at hh
      go_enter Try.func57, Try.ntmps57
      go_wp2_with fail
      refine hh.mono ?_
      rintro e u ⟨rfl, hB⟩
      dsimp only
      have HB := hid hB
      clear hB hh c1 ft fu
      go_wp2_with fail
      go_ret
      exact ⟨rfl, HA.out.below HB.out, HF.out.trans (Fr.of_below (fun _ => False) HB.out) (fun _ _ e => e.elim)⟩
    · rw [if_neg hr]
      rw [decide_eq_false hr] at hh
      go_enter Try.func57, Try.ntmps57
      go_wp2_with fail
      refine hh.mono ?_
      rintro e u ⟨rfl, hB⟩
      dsimp only
      have HB := hid hB
      have A' := HA.out.below hB
      have c1' := A'.cell (i := 1) rfl
      have ft' := A'.thaw 1
      have HA' := hid A'
      clear hB hh A' c1 ft fu
      go_wp2_with fail
      go_ret
      refine ⟨rfl, ?_, (HF.out.trans (Fr.of_below (fun _ => False) HB.out) (fun _ _ e => e.elim)).setCell (p := ⟨b, 1, none⟩) rfl _⟩
      have := HA'.out.set 1 (.int .i64 3)
      simp only [List.setIfInBounds_toArray, List.set_cons_zero, List.set_cons_succ] at this
      exact this
theorem val62 {l : List Bool} (h : l.length ≤ 62) : IntKind.i64.wrap ((val l : Nat) : Int) = ((val l : Nat) : Int) := by
  have h1 := val_lt l
  have h2 : (2 : Nat) ^ l.length ≤ 2 ^ 62 := Nat.pow_le_pow_right (by decide) h
  unfold IntKind.wrap; simp [IntKind.signed, IntKind.bits]; omega
theorem took_step (g : Bool) (rs : List Bool) (n : Int) (r : Rm) : Pg.rdS g (rs, 0) n r = ((tookS (if r.bits ≤ rs.length then Pg.rdx g (rs.take r.bits) else 0) (decide (r.bits ≤ rs.length)) r).1, ((if r.bits ≤ rs.length then rs.drop r.bits else []), (tookS (if r.bits ≤ rs.length then Pg.rdx g (rs.take r.bits) else 0) (decide (r.bits ≤ rs.length)) r).2)) := by
  unfold Pg.rdS tookS
  simp only [if_true]
  by_cases h : r.bits ≤ rs.length
  · simp only [h, if_true, decide_true]
    split <;> rfl
  · simp only [h, if_false, decide_false]; rfl
set_option maxRecDepth 100000 in
set_option maxHeartbeats 1000000 in
theorem rdNum {b : Nat} {s : List Bool × Int} {S : Nat → Prop} {w : World} (n : Int) (r : Rm) (h : rdAt b s S w) :
    Calls Try.prog 33 #[.pointer (some ⟨b, 0, none⟩), .int .i64 n, rmV r] w fun e w' => e = .returned (.int .i64 (Pg.rdS false s n r).1) ∧ ∃ S', rdAt b (Pg.rdS false s n r).2 S' w' ∧ Fr S w w' ∧ Sub w S S' := by
  obtain ⟨rs, err⟩ := s
  obtain ⟨rb, Sr, h1, h2, h3, h4, h5⟩ := h
  dsimp only at h1 h2
  have hlt := h1.lt
  by_cases he : err = 0
  · subst he
    rw [took_step]
    have hc : cnt (r.bits : Int) = r.bits := cnt_nat (by have := r.few; omega)
    have hk := fun u (hB : Below w.heap.size w u) => getR Sr rb rs (r.bits : Int) u (h2.below hB)
    rw [hc] at hk
    have hS : ¬ Sr w.heap.size := fun e => by have := h5 _ (h3 _ e).1; omega
    have hSb : ¬ Sr b := fun e => (h3 _ e).2 rfl
    have hgot : (if r.bits ≤ rs.length then Pg.rdx false (rs.take r.bits) else 0) = ((gotV rs r.bits : Nat) : Int) := by
      unfold gotV; split <;> rfl
    have hgr : (if r.bits ≤ rs.length then rs.drop r.bits else []) = gotR rs r.bits := rfl
    have hgb : decide (r.bits ≤ rs.length) = gotB rs r.bits := rfl
    rw [hgot, hgr, hgb]
    have hwr : IntKind.i64.wrap ((gotV rs r.bits : Nat) : Int) = ((gotV rs r.bits : Nat) : Int) := by
      unfold gotV; split
      · exact val62 (by rw [List.length_take]; have := r.few; omega)
      · rfl
    have ht := fun (u : World) (hu : Bq u b 77 #[.pointer (some ⟨rb, 0, none⟩), .int .i64 0]) => rdTook (((gotV rs r.bits : Nat) : Int)) (gotB rs r.bits) r hu
    clear hgot hgr hgb
    generalize tookS (((gotV rs r.bits : Nat) : Int)) (gotB rs r.bits) r = q at *
    generalize gotR rs r.bits = rs' at *
    generalize gotB rs r.bits = is at *
    generalize gotV rs r.bits = x at *
    obtain ⟨q1, q2⟩ := q
    dsimp only at ht ⊢
    have A0 := h1.alloc (.cells #[.int .i64 (r.bits : Int), .int .i64 r.least, .int .i64 r.most] 62)
    have c1 := A0.cell (i := 1) rfl
    unfold rmV at *
    have A := (Bq.new w 62 #[.int .i64 (r.bits : Int), .int .i64 r.least, .int .i64 r.most]).below (below_drewN _ 1)
    replace A0 := A0.below (below_drewN _ 1)
    have HB := hid (((Below.refl w.heap.size w).alloc (Nat.le_refl _) (.cells #[.int .i64 (r.bits : Int), .int .i64 r.least, .int .i64 r.most] 62)).trans (below_drewN _ 1))
    have H0 := hid A0; have HA := hid A
    clear A0 A h1 h2
    go_enter Try.func33, Try.ntmps33
    go_wp2_with fail
    clear c1
    refine region_held (fun u => u.cell? ⟨w.heap.size, 0, none⟩ = some (.int .i64 (r.bits : Int)) ∧ u.cell? ⟨b, 0, none⟩ = some (.pointer (some ⟨rb, 0, none⟩))) 12 rfl (by kernel_rfl) ⟨HA.out.cell (i := 0) rfl, H0.out.cell (i := 0) rfl⟩ ?_
    intro hHeld
    refine takeO 0 (some 15) (v := ?v14) rfl rfl (by kernel_rfl) (by kernel_rfl) (by kernel_rfl) (Or.inl ⟨by rfl, ?y14⟩) hHeld ?r14
    case y14 => (intro w' hSw; (try dsimp only at hSw); go_simp; try with_reducible rfl)
    try simp only [Act.put, List.setIfInBounds_toArray, List.set_cons_zero, List.set_cons_succ]
    refine takeO 1 (some 16) (v := ?v15) rfl rfl (by kernel_rfl) (by kernel_rfl) (by kernel_rfl) (Or.inl ⟨by rfl, ?y15⟩) hHeld ?r15
    case y15 => (intro w' hSw; (try dsimp only at hSw); go_simp; try with_reducible rfl)
    try simp only [Act.put, List.setIfInBounds_toArray, List.set_cons_zero, List.set_cons_succ]
    refine takeO 2 (some 17) (v := ?v16) rfl rfl (by kernel_rfl) (by kernel_rfl) (by kernel_rfl) (Or.inl ⟨by rfl, ?y16⟩) hHeld ?r16
    case y16 => (intro w' hSw; (try dsimp only at hSw); go_simp; try with_reducible rfl)
    try simp only [Act.put, List.setIfInBounds_toArray, List.set_cons_zero, List.set_cons_succ]
    refine takeO 3 (some 18) (v := ?v17) rfl rfl (by kernel_rfl) (by kernel_rfl) (by kernel_rfl) (Or.inl ⟨by rfl, ?y17⟩) hHeld ?r17
    case y17 => (intro w' hSw; (try dsimp only at hSw); go_simp; try with_reducible rfl)
    try simp only [Act.put, List.setIfInBounds_toArray, List.set_cons_zero, List.set_cons_succ]
    refine takeO 4 (some 19) (v := ?v18) rfl rfl (by kernel_rfl) (by kernel_rfl) (by kernel_rfl) (Or.inl ⟨by rfl, ?y18⟩) hHeld ?r18
    case y18 => (intro w' hSw; (try dsimp only at hSw); go_simp; try with_reducible rfl)
    try simp only [Act.put, List.setIfInBounds_toArray, List.set_cons_zero, List.set_cons_succ]
    refine takeO 5 (some 20) (v := ?v19) rfl rfl (by kernel_rfl) (by kernel_rfl) (by kernel_rfl) (Or.inl ⟨by rfl, ?y19⟩) hHeld ?r19
    case y19 => (intro w' hSw; (try dsimp only at hSw); go_simp; try with_reducible rfl)
    try simp only [Act.put, List.setIfInBounds_toArray, List.set_cons_zero, List.set_cons_succ]
    refine wpAnyH_ready (rs := [6]) (by kernel_rfl) (by simp) ?_
    refine AllReadyH.cons rfl (fun K hK => ?_) AllReadyH.nil
    go_simp
    refine (hk _ HB.out).mono ?_
    rintro e u ⟨rfl, g1, g2⟩
    dsimp only
    have A1 := HA.out.same (g2.block _ HA.out.lt hS)
    have B1 := H0.out.same (g2.block _ H0.out.lt hSb)
    refine hK.out _ _ ⟨A1.cell (i := 0) rfl, B1.cell (i := 0) rfl⟩ (fun hHeld => ?_)
    clear hK K
    have HG1 := hid g1
    have HG2 : Hid (Fr Sr w u) := hid ((Fr.of_below Sr HB.out).trans g2 (fun _ _ e => e))
    have HA1 := hid A1; have HB1 := hid B1
    clear g1 g2 A1 B1 HA H0 HB hk
    refine takeO 7 (some 14) (v := ?v20) rfl rfl (by kernel_rfl) (by kernel_rfl) (by kernel_rfl) (Or.inl ⟨by rfl, ?y20⟩) hHeld ?r20
    case y20 => (intro w' hSw; (try dsimp only at hSw); go_simp; try with_reducible rfl)
    try simp only [Act.put, List.setIfInBounds_toArray, List.set_cons_zero, List.set_cons_succ]
    refine takeO 8 (some 22) (v := ?v21) rfl rfl (by kernel_rfl) (by kernel_rfl) (by kernel_rfl) (Or.inl ⟨by rfl, ?y21⟩) hHeld ?r21
    case y21 => (intro w' hSw; (try dsimp only at hSw); go_simp; try with_reducible rfl)
    try simp only [Act.put, List.setIfInBounds_toArray, List.set_cons_zero, List.set_cons_succ]
    refine takeO 9 (some 23) (v := ?v22) rfl rfl (by kernel_rfl) (by kernel_rfl) (by kernel_rfl) (Or.inl ⟨by rfl, ?y22⟩) hHeld ?r22
    case y22 => (intro w' hSw; (try dsimp only at hSw); go_simp; try with_reducible rfl)
    try simp only [Act.put, List.setIfInBounds_toArray, List.set_cons_zero, List.set_cons_succ]
    refine takeO 10 (some 7) (v := ?v23) rfl rfl (by kernel_rfl) (by kernel_rfl) (by kernel_rfl) (Or.inl ⟨by rfl, ?y23⟩) hHeld ?r23
    case y23 => (intro w' hSw; (try dsimp only at hSw); go_simp; try with_reducible rfl)
    try simp only [Act.put, List.setIfInBounds_toArray, List.set_cons_zero, List.set_cons_succ]
    refine takeO 11 (some 8) (v := ?v24) rfl rfl (by kernel_rfl) (by kernel_rfl) (by kernel_rfl) (Or.inl ⟨by rfl, ?y24⟩) hHeld ?r24
    case y24 => (intro w' hSw; (try dsimp only at hSw); go_simp; try with_reducible rfl)
    try simp only [Act.put, List.setIfInBounds_toArray, List.set_cons_zero, List.set_cons_succ]
    refine wpAnyH_done (by kernel_rfl) (Only.on ?_) _
    clear hHeld
    have a0 := HA1.out.cell (i := 0) rfl
    have a1 := HA1.out.cell (i := 1) rfl
    have a2 := HA1.out.cell (i := 2) rfl
    go_wp2_with fail
    clear a0 a1 a2
    refine (ht _ HB1.out).mono ?_
    rintro e u2 ⟨rfl, g3, g4⟩
    dsimp only
    have HG3 := hid g3; have HG4 := hid g4
    clear g3 g4 ht
    go_wp2_with fail
    go_ret
    have hsz := HG2.out.size
    refine ⟨rfl, S, ⟨rb, Sr, HG3.out, HG1.out.keep HG4.out (fun k hk e => (h3 k hk).2 e), h3, h4, fun k hk => Nat.lt_of_lt_of_le (h5 k hk) (Nat.le_trans hsz HG4.out.size)⟩, ?_, fun k hk => .inl hk⟩
    exact (HG2.out.mono (fun k _ hk => (h3 k hk).1)).trans HG4.out (fun k _ e => by rw [e]; exact h4)
  · have hq : Pg.rdS false (rs, err) n r = (0, (rs, err)) := by unfold Pg.rdS; dsimp only; rw [if_neg he]
    rw [hq]
    have c1 := (h1.alloc (.cells #[.int .i64 (r.bits : Int), .int .i64 r.least, .int .i64 r.most] 62)).cell (i := 1) rfl
    have hb : (err == 0) = false := by simp [he]
    unfold rmV
    have H1 := hid h1; have H2 := hid h2
    clear h1 h2
    go_enter Try.func33, Try.ntmps33
    go_wp2_with fail
    go_ret
    refine ⟨rfl, S, rdAt.keep (S' := fun _ => False) ⟨rb, Sr, H1.out, H2.out, h3, h4, h5⟩ ((Fr.refl _ _).alloc _) (fun _ _ e => e), (Fr.refl _ _).alloc _, fun k hk => .inl hk⟩
set_option maxRecDepth 100000 in
set_option maxHeartbeats 1000000 in
theorem rdSgn {b : Nat} {s : List Bool × Int} {S : Nat → Prop} {w : World} (n : Int) (r : Rm) (h : rdAt b s S w) :
    Calls Try.prog 96 #[.pointer (some ⟨b, 0, none⟩), .int .i64 n, rmV r] w fun e w' => e = .returned (.int .i64 (Pg.rdS true s n r).1) ∧ ∃ S', rdAt b (Pg.rdS true s n r).2 S' w' ∧ Fr S w w' ∧ Sub w S S' := by
  obtain ⟨rs, err⟩ := s
  obtain ⟨rb, Sr, h1, h2, h3, h4, h5⟩ := h
  dsimp only at h1 h2
  have hlt := h1.lt
  by_cases he : err = 0
  · subst he
    rw [took_step]
    have hc : cnt (r.bits : Int) = r.bits := cnt_nat (by have := r.few; omega)
    have hk := fun u (hB : Below w.heap.size w u) => signR Sr rb rs (r.bits : Int) u (h2.below hB)
    rw [hc] at hk
    have hS : ¬ Sr w.heap.size := fun e => by have := h5 _ (h3 _ e).1; omega
    have hSb : ¬ Sr b := fun e => (h3 _ e).2 rfl
    have hgot : (if r.bits ≤ rs.length then Pg.rdx true (rs.take r.bits) else 0) = gotS rs r.bits := by
      unfold gotS; split <;> rfl
    have hgr : (if r.bits ≤ rs.length then rs.drop r.bits else []) = gotR rs r.bits := rfl
    have hgb : decide (r.bits ≤ rs.length) = gotB rs r.bits := rfl
    rw [hgot, hgr, hgb]
    have hwr : True := trivial
    have ht := fun (u : World) (hu : Bq u b 77 #[.pointer (some ⟨rb, 0, none⟩), .int .i64 0]) => rdTook (gotS rs r.bits) (gotB rs r.bits) r hu
    clear hgot hgr hgb
    generalize tookS (gotS rs r.bits) (gotB rs r.bits) r = q at *
    generalize gotR rs r.bits = rs' at *
    generalize gotB rs r.bits = is at *
    generalize gotS rs r.bits = x at *
    obtain ⟨q1, q2⟩ := q
    dsimp only at ht ⊢
    have A0 := h1.alloc (.cells #[.int .i64 (r.bits : Int), .int .i64 r.least, .int .i64 r.most] 62)
    have c1 := A0.cell (i := 1) rfl
    unfold rmV at *
    have A := (Bq.new w 62 #[.int .i64 (r.bits : Int), .int .i64 r.least, .int .i64 r.most]).below (below_drewN _ 1)
    replace A0 := A0.below (below_drewN _ 1)
    have HB := hid (((Below.refl w.heap.size w).alloc (Nat.le_refl _) (.cells #[.int .i64 (r.bits : Int), .int .i64 r.least, .int .i64 r.most] 62)).trans (below_drewN _ 1))
    have H0 := hid A0; have HA := hid A
    clear A0 A h1 h2
    go_enter Try.func96, Try.ntmps96
    go_wp2_with fail
    clear c1
    refine region_held (fun u => u.cell? ⟨w.heap.size, 0, none⟩ = some (.int .i64 (r.bits : Int)) ∧ u.cell? ⟨b, 0, none⟩ = some (.pointer (some ⟨rb, 0, none⟩))) 12 rfl (by kernel_rfl) ⟨HA.out.cell (i := 0) rfl, H0.out.cell (i := 0) rfl⟩ ?_
    intro hHeld
    refine takeO 0 (some 15) (v := ?v25) rfl rfl (by kernel_rfl) (by kernel_rfl) (by kernel_rfl) (Or.inl ⟨by rfl, ?y25⟩) hHeld ?r25
    case y25 => (intro w' hSw; (try dsimp only at hSw); go_simp; try with_reducible rfl)
    try simp only [Act.put, List.setIfInBounds_toArray, List.set_cons_zero, List.set_cons_succ]
    refine takeO 1 (some 16) (v := ?v26) rfl rfl (by kernel_rfl) (by kernel_rfl) (by kernel_rfl) (Or.inl ⟨by rfl, ?y26⟩) hHeld ?r26
    case y26 => (intro w' hSw; (try dsimp only at hSw); go_simp; try with_reducible rfl)
    try simp only [Act.put, List.setIfInBounds_toArray, List.set_cons_zero, List.set_cons_succ]
    refine takeO 2 (some 17) (v := ?v27) rfl rfl (by kernel_rfl) (by kernel_rfl) (by kernel_rfl) (Or.inl ⟨by rfl, ?y27⟩) hHeld ?r27
    case y27 => (intro w' hSw; (try dsimp only at hSw); go_simp; try with_reducible rfl)
    try simp only [Act.put, List.setIfInBounds_toArray, List.set_cons_zero, List.set_cons_succ]
    refine takeO 3 (some 18) (v := ?v28) rfl rfl (by kernel_rfl) (by kernel_rfl) (by kernel_rfl) (Or.inl ⟨by rfl, ?y28⟩) hHeld ?r28
    case y28 => (intro w' hSw; (try dsimp only at hSw); go_simp; try with_reducible rfl)
    try simp only [Act.put, List.setIfInBounds_toArray, List.set_cons_zero, List.set_cons_succ]
    refine takeO 4 (some 19) (v := ?v29) rfl rfl (by kernel_rfl) (by kernel_rfl) (by kernel_rfl) (Or.inl ⟨by rfl, ?y29⟩) hHeld ?r29
    case y29 => (intro w' hSw; (try dsimp only at hSw); go_simp; try with_reducible rfl)
    try simp only [Act.put, List.setIfInBounds_toArray, List.set_cons_zero, List.set_cons_succ]
    refine takeO 5 (some 20) (v := ?v30) rfl rfl (by kernel_rfl) (by kernel_rfl) (by kernel_rfl) (Or.inl ⟨by rfl, ?y30⟩) hHeld ?r30
    case y30 => (intro w' hSw; (try dsimp only at hSw); go_simp; try with_reducible rfl)
    try simp only [Act.put, List.setIfInBounds_toArray, List.set_cons_zero, List.set_cons_succ]
    refine wpAnyH_ready (rs := [6]) (by kernel_rfl) (by simp) ?_
    refine AllReadyH.cons rfl (fun K hK => ?_) AllReadyH.nil
    go_simp
    refine (hk _ HB.out).mono ?_
    rintro e u ⟨rfl, g1, g2⟩
    dsimp only
    have A1 := HA.out.same (g2.block _ HA.out.lt hS)
    have B1 := H0.out.same (g2.block _ H0.out.lt hSb)
    refine hK.out _ _ ⟨A1.cell (i := 0) rfl, B1.cell (i := 0) rfl⟩ (fun hHeld => ?_)
    clear hK K
    have HG1 := hid g1
    have HG2 : Hid (Fr Sr w u) := hid ((Fr.of_below Sr HB.out).trans g2 (fun _ _ e => e))
    have HA1 := hid A1; have HB1 := hid B1
    clear g1 g2 A1 B1 HA H0 HB hk
    refine takeO 7 (some 14) (v := ?v31) rfl rfl (by kernel_rfl) (by kernel_rfl) (by kernel_rfl) (Or.inl ⟨by rfl, ?y31⟩) hHeld ?r31
    case y31 => (intro w' hSw; (try dsimp only at hSw); go_simp; try with_reducible rfl)
    try simp only [Act.put, List.setIfInBounds_toArray, List.set_cons_zero, List.set_cons_succ]
    refine takeO 8 (some 22) (v := ?v32) rfl rfl (by kernel_rfl) (by kernel_rfl) (by kernel_rfl) (Or.inl ⟨by rfl, ?y32⟩) hHeld ?r32
    case y32 => (intro w' hSw; (try dsimp only at hSw); go_simp; try with_reducible rfl)
    try simp only [Act.put, List.setIfInBounds_toArray, List.set_cons_zero, List.set_cons_succ]
    refine takeO 9 (some 23) (v := ?v33) rfl rfl (by kernel_rfl) (by kernel_rfl) (by kernel_rfl) (Or.inl ⟨by rfl, ?y33⟩) hHeld ?r33
    case y33 => (intro w' hSw; (try dsimp only at hSw); go_simp; try with_reducible rfl)
    try simp only [Act.put, List.setIfInBounds_toArray, List.set_cons_zero, List.set_cons_succ]
    refine takeO 10 (some 7) (v := ?v34) rfl rfl (by kernel_rfl) (by kernel_rfl) (by kernel_rfl) (Or.inl ⟨by rfl, ?y34⟩) hHeld ?r34
    case y34 => (intro w' hSw; (try dsimp only at hSw); go_simp; try with_reducible rfl)
    try simp only [Act.put, List.setIfInBounds_toArray, List.set_cons_zero, List.set_cons_succ]
    refine takeO 11 (some 8) (v := ?v35) rfl rfl (by kernel_rfl) (by kernel_rfl) (by kernel_rfl) (Or.inl ⟨by rfl, ?y35⟩) hHeld ?r35
    case y35 => (intro w' hSw; (try dsimp only at hSw); go_simp; try with_reducible rfl)
    try simp only [Act.put, List.setIfInBounds_toArray, List.set_cons_zero, List.set_cons_succ]
    refine wpAnyH_done (by kernel_rfl) (Only.on ?_) _
    clear hHeld
    have a0 := HA1.out.cell (i := 0) rfl
    have a1 := HA1.out.cell (i := 1) rfl
    have a2 := HA1.out.cell (i := 2) rfl
    go_wp2_with fail
    clear a0 a1 a2
    refine (ht _ HB1.out).mono ?_
    rintro e u2 ⟨rfl, g3, g4⟩
    dsimp only
    have HG3 := hid g3; have HG4 := hid g4
    clear g3 g4 ht
    go_wp2_with fail
    go_ret
    have hsz := HG2.out.size
    refine ⟨rfl, S, ⟨rb, Sr, HG3.out, HG1.out.keep HG4.out (fun k hk e => (h3 k hk).2 e), h3, h4, fun k hk => Nat.lt_of_lt_of_le (h5 k hk) (Nat.le_trans hsz HG4.out.size)⟩, ?_, fun k hk => .inl hk⟩
    exact (HG2.out.mono (fun k _ hk => (h3 k hk).1)).trans HG4.out (fun k _ e => by rw [e]; exact h4)
  · have hq : Pg.rdS true (rs, err) n r = (0, (rs, err)) := by unfold Pg.rdS; dsimp only; rw [if_neg he]
    rw [hq]
    have c1 := (h1.alloc (.cells #[.int .i64 (r.bits : Int), .int .i64 r.least, .int .i64 r.most] 62)).cell (i := 1) rfl
    have hb : (err == 0) = false := by simp [he]
    unfold rmV
    have H1 := hid h1; have H2 := hid h2
    clear h1 h2
    go_enter Try.func96, Try.ntmps96
    go_wp2_with fail
    go_ret
    refine ⟨rfl, S, rdAt.keep (S' := fun _ => False) ⟨rb, Sr, H1.out, H2.out, h3, h4, h5⟩ ((Fr.refl _ _).alloc _) (fun _ _ e => e), (Fr.refl _ _).alloc _, fun k hk => .inl hk⟩
theorem rd_res (g : Bool) (s : List Bool × Int) (n : Int) (r : Rm) : (Pg.rdS g s n r).1 = n ∨ (Pg.rdS g s n r).1 = 0 ∨ r.has (Pg.rdS g s n r).1 := by
  unfold Pg.rdS
  split
  · split
    · split
      · rename_i h; exact .inr (.inr h)
      · exact .inr (.inl rfl)
    · exact .inr (.inl rfl)
  · exact .inr (.inl rfl)
theorem rd_res2 (g : Bool) (s : List Bool × Int) (n : Int) (r : Rm) : (Pg.rdS g s n r).1 = 0 ∨ r.has (Pg.rdS g s n r).1 := by
  unfold Pg.rdS
  split
  · split
    · split
      · rename_i h; exact .inr h
      · exact .inl rfl
    · exact .inl rfl
  · exact .inl rfl
def rdW (b : Nat) : Way (List Bool × Int) where
  T := 73
  b := b
  f g := if g then 96 else 33
  step := Pg.rdS
  At := rdAt b
  ok _ := True
  lt h := h.lt
  keep h hf hd := h.keep hf hd
  goes g n r h _ := by
    cases g
    · exact rdNum n r h
    · exact rdSgn n r h
  res := rd_res
  tight := True
  res2 _ := rd_res2
  method g w := by cases g <;> kernel_rfl
  enters g args w := by cases g <;> kernel_rfl
end Go.Proofs.Ytkmiogaklmgnkaa
