/- Layer 5 (message): vectors and commands through a way. -/
import Derived.Test.YtkmiogaklmgnkaaMsB
namespace Go.Proofs.Ytkmiogaklmgnkaa
open Go.RowKit Go.Shelf
set_option linter.unusedVariables false
set_option linter.unusedSimpArgs false
attribute [local go_sem ↓] Go.wp_at_zero Go.wp_at_succ

def vecV (v : V3) : Value := .agg #[.int .i64 v.x, .int .i64 v.y, .int .i64 v.z]
def cmV (c : Cm) : Value := .agg #[.int .u16 c.seq, .int .u8 c.but, .int .i8 c.dx, .int .i8 c.dy, .int .i64 c.tk]
theorem heap_three (w : World) (o1 o2 o3 : Obj) : (((w.alloc o1).alloc o2).alloc o3).heap.size = w.heap.size + 3 := by simp
set_option maxRecDepth 100000 in
set_option maxHeartbeats 1000000 in
theorem vecF {σ : Type} (W : Way σ) {s : σ} {S : Nat → Prop} (v : V3) (r : Rm) (w : World) (h : W.At s S w) (hok : (vecP v r).All W.ok W.step s) :
    Calls Try.prog 46 #[vecV v, W.fv true, rmV r] w fun e w' => e = .returned (vecV ((vecP v r).run W.step s).1) ∧ ∃ S', W.At ((vecP v r).run W.step s).2 S' w' ∧ Fr S w w' ∧ Sub w S S' := by
  obtain ⟨x, y, z⟩ := v
  obtain ⟨ok1, ok2, ok3, _⟩ := hok
  simp only [vecP, Pg.run_ask, Pg.run_ret] at *
  have c1 := fun S1 w1 (h : W.At s S1 w1) => field64 W true x r w1 h ok1
  obtain ⟨x1, hx1⟩ : ∃ x1, (W.step true s x r).1 = x1 := ⟨_, rfl⟩
  obtain ⟨s1, hs1⟩ : ∃ s1, (W.step true s x r).2 = s1 := ⟨_, rfl⟩
  rw [hs1] at ok2 ok3
  simp only [hx1, hs1] at *
  have c2 := fun S1 w1 (h : W.At s1 S1 w1) => field64 W true y r w1 h ok2
  obtain ⟨x2, hx2⟩ : ∃ x1, (W.step true s1 y r).1 = x1 := ⟨_, rfl⟩
  obtain ⟨s2, hs2⟩ : ∃ s2, (W.step true s1 y r).2 = s2 := ⟨_, rfl⟩
  simp only [hx2, hs2] at *
  have c3 := fun S1 w1 (h : W.At s2 S1 w1) => field64 W true z r w1 h ok3
  obtain ⟨x3, hx3⟩ : ∃ x1, (W.step true s2 z r).1 = x1 := ⟨_, rfl⟩
  obtain ⟨s3, hs3⟩ : ∃ q, (W.step true s2 z r).2 = q := ⟨_, rfl⟩
  simp only [hx3, hs3] at *
  clear hx1 hx2 hx3 hs1 hs2 hs3 ok1 ok2 ok3
  unfold vecV
  dsimp only
  generalize W.fv true = fv at *
  unfold rmV at *
  have G0 := Gn.new h
  clear h
  go_enter Try.func46, Try.ntmps46
  go_wp2_with fail
  have hz3 : (((w.alloc (.cells #[.int .i64 x, .int .i64 y, .int .i64 z] 37)).alloc (.cells #[.int .i64 (r.bits : Int), .int .i64 r.least, .int .i64 r.most] 62)).alloc (.cells #[.int .i64 0, .int .i64 0, .int .i64 0] 37)).heap.size = w.heap.size + 1 + 1 + 1 := by simp
  have hz1 : (w.alloc (.cells #[.int .i64 x, .int .i64 y, .int .i64 z] 37)).heap.size = w.heap.size + 1 := by simp
  have hz2 : ((w.alloc (.cells #[.int .i64 x, .int .i64 y, .int .i64 z] 37)).alloc (.cells #[.int .i64 (r.bits : Int), .int .i64 r.least, .int .i64 r.most] 62)).heap.size = w.heap.size + 1 + 1 := by simp
  have A0 := (((Bq.new w 37 #[.int .i64 x, .int .i64 y, .int .i64 z]).alloc (.cells #[.int .i64 (r.bits : Int), .int .i64 r.least, .int .i64 r.most] 62)).alloc (.cells #[.int .i64 0, .int .i64 0, .int .i64 0] 37)).alloc (.cells #[.int .i64 0, .int .i64 0, .int .i64 0] 37)
  have A1 := ((Bq.new' 62 #[.int .i64 (r.bits : Int), .int .i64 r.least, .int .i64 r.most] hz1).alloc (.cells #[.int .i64 0, .int .i64 0, .int .i64 0] 37)).alloc (.cells #[.int .i64 0, .int .i64 0, .int .i64 0] 37)
  have A2 := (Bq.new' 37 #[.int .i64 0, .int .i64 0, .int .i64 0] hz2).alloc (.cells #[.int .i64 0, .int .i64 0, .int .i64 0] 37)
  have A3 := Bq.new' 37 #[.int .i64 0, .int .i64 0, .int .i64 0] hz3
  have G := (((((G0.alloc (.cells #[.int .i64 x, .int .i64 y, .int .i64 z] 37)).alloc (.cells #[.int .i64 (r.bits : Int), .int .i64 r.least, .int .i64 r.most] 62)).alloc (.cells #[.int .i64 0, .int .i64 0, .int .i64 0] 37)).alloc (.cells #[.int .i64 0, .int .i64 0, .int .i64 0] 37))).mono (Y := fun k => w.heap.size ≤ k ∧ k < w.heap.size + 4) (fun k hk => by simp only [hz1, hz2, hz3]; omega)
  clear hz1 hz2 hz3 G0
  generalize ((((w.alloc (.cells #[.int .i64 x, .int .i64 y, .int .i64 z] 37)).alloc (.cells #[.int .i64 (r.bits : Int), .int .i64 r.least, .int .i64 r.most] 62)).alloc (.cells #[.int .i64 0, .int .i64 0, .int .i64 0] 37)).alloc (.cells #[.int .i64 0, .int .i64 0, .int .i64 0] 37)) = w0 at *
  refine (G.call (fun S1 h => c1 S1 _ h)).mono ?_
  rintro e u1 ⟨rfl, G', hk, _⟩
  replace G := G'
  replace A0 := A0.same (hk _ (by omega)); replace A1 := A1.same (hk _ (by omega)); replace A2 := A2.same (hk _ (by omega)); replace A3 := A3.same (hk _ (by omega))
  have k00 := A0.cell (i := 0) rfl; have k01 := A0.cell (i := 1) rfl; have k02 := A0.cell (i := 2) rfl
  have k10 := A1.cell (i := 0) rfl; have k11 := A1.cell (i := 1) rfl; have k12 := A1.cell (i := 2) rfl
  have k20 := A2.cell (i := 0) rfl; have k21 := A2.cell (i := 1) rfl; have k22 := A2.cell (i := 2) rfl
  have k30 := A3.cell (i := 0) rfl; have k31 := A3.cell (i := 1) rfl; have k32 := A3.cell (i := 2) rfl
  have f2 := A2.thaw; have f3 := A3.thaw
  have HG := hid G; have H0 := hid A0; have H1 := hid A1; have H2 := hid A2; have H3 := hid A3
  clear G' hk G A0 A1 A2 A3
  dsimp only
  go_wp2_with fail
  clear k00 k01 k02 k10 k11 k12 k20 k21 k22 k30 k31 k32 f2 f3
  have G := HG.out.set (B := w.heap.size + 1 + 1 + 1) (by omega) (by omega) 0 (.int .i64 x1)
  have A3 := H3.out.set 0 (.int .i64 x1)
  simp only [List.setIfInBounds_toArray, List.set_cons_zero, List.set_cons_succ] at A3
  have A0 := H0.out.other (i := 0) (b := w.heap.size + 1 + 1 + 1) (by omega) (.int .i64 x1)
  have A1 := H1.out.other (i := 0) (b := w.heap.size + 1 + 1 + 1) (by omega) (.int .i64 x1)
  have A2 := H2.out.other (i := 0) (b := w.heap.size + 1 + 1 + 1) (by omega) (.int .i64 x1)
  clear HG H0 H1 H2 H3
  generalize u1.setCell ⟨w.heap.size + 1 + 1 + 1, 0, none⟩ (.int .i64 x1) = v1 at *
  refine (G.call (fun S1 h => c2 S1 _ h)).mono ?_
  rintro e u2 ⟨rfl, G', hk, _⟩
  replace G := G'
  replace A0 := A0.same (hk _ (by omega)); replace A1 := A1.same (hk _ (by omega)); replace A2 := A2.same (hk _ (by omega)); replace A3 := A3.same (hk _ (by omega))
  have k00 := A0.cell (i := 0) rfl; have k01 := A0.cell (i := 1) rfl; have k02 := A0.cell (i := 2) rfl
  have k10 := A1.cell (i := 0) rfl; have k11 := A1.cell (i := 1) rfl; have k12 := A1.cell (i := 2) rfl
  have k20 := A2.cell (i := 0) rfl; have k21 := A2.cell (i := 1) rfl; have k22 := A2.cell (i := 2) rfl
  have k30 := A3.cell (i := 0) rfl; have k31 := A3.cell (i := 1) rfl; have k32 := A3.cell (i := 2) rfl
  have f2 := A2.thaw; have f3 := A3.thaw
  have HG := hid G; have H0 := hid A0; have H1 := hid A1; have H2 := hid A2; have H3 := hid A3
  clear G' hk G A0 A1 A2 A3
  dsimp only
  go_wp2_with fail
  clear k00 k01 k02 k10 k11 k12 k20 k21 k22 k30 k31 k32 f2 f3
  have G := HG.out.set (B := w.heap.size + 1 + 1 + 1) (by omega) (by omega) 1 (.int .i64 x2)
  have A3 := H3.out.set 1 (.int .i64 x2)
  simp only [List.setIfInBounds_toArray, List.set_cons_zero, List.set_cons_succ] at A3
  have A0 := H0.out.other (i := 1) (b := w.heap.size + 1 + 1 + 1) (by omega) (.int .i64 x2)
  have A1 := H1.out.other (i := 1) (b := w.heap.size + 1 + 1 + 1) (by omega) (.int .i64 x2)
  have A2 := H2.out.other (i := 1) (b := w.heap.size + 1 + 1 + 1) (by omega) (.int .i64 x2)
  clear HG H0 H1 H2 H3
  generalize u2.setCell ⟨w.heap.size + 1 + 1 + 1, 1, none⟩ (.int .i64 x2) = v2 at *
  refine (G.call (fun S1 h => c3 S1 _ h)).mono ?_
  rintro e u3 ⟨rfl, G', hk, _⟩
  replace G := G'
  replace A0 := A0.same (hk _ (by omega)); replace A1 := A1.same (hk _ (by omega)); replace A2 := A2.same (hk _ (by omega)); replace A3 := A3.same (hk _ (by omega))
  have k00 := A0.cell (i := 0) rfl; have k01 := A0.cell (i := 1) rfl; have k02 := A0.cell (i := 2) rfl
  have k10 := A1.cell (i := 0) rfl; have k11 := A1.cell (i := 1) rfl; have k12 := A1.cell (i := 2) rfl
  have k20 := A2.cell (i := 0) rfl; have k21 := A2.cell (i := 1) rfl; have k22 := A2.cell (i := 2) rfl
  have k30 := A3.cell (i := 0) rfl; have k31 := A3.cell (i := 1) rfl; have k32 := A3.cell (i := 2) rfl
  have f2 := A2.thaw; have f3 := A3.thaw
  have HG := hid G; have H0 := hid A0; have H1 := hid A1; have H2 := hid A2; have H3 := hid A3
  clear G' hk G A0 A1 A2 A3
  dsimp only
  go_wp2_with fail
  have E := ((((H2.out.other (i := 2) (b := w.heap.size + 1 + 1 + 1) (by omega) (.int .i64 x3)).set 0 (.int .i64 x1)).set 1 (.int .i64 x2)).set 2 (.int .i64 x3))
  simp only [List.setIfInBounds_toArray, List.set_cons_zero, List.set_cons_succ] at E
  have GE := (((((HG.out.set (B := w.heap.size + 1 + 1 + 1) (by omega) (by omega) 2 (.int .i64 x3))).set (B := w.heap.size + 1 + 1) (by omega) (by omega) 0 (.int .i64 x1)).set (B := w.heap.size + 1 + 1) (by omega) (by omega) 1 (.int .i64 x2)).set (B := w.heap.size + 1 + 1) (by omega) (by omega) 2 (.int .i64 x3)).done
  clear k00 k01 k02 k10 k11 k12 k20 k21 k22 k30 k31 k32 f2 f3
  generalize ((((u3.setCell { block := w.heap.size + 1 + 1 + 1, off := 2 } (Value.int IntKind.i64 x3)).setCell { block := w.heap.size + 1 + 1, off := 0 } (Value.int IntKind.i64 x1)).setCell { block := w.heap.size + 1 + 1, off := 1 } (Value.int IntKind.i64 x2)).setCell { block := w.heap.size + 1 + 1, off := 2 } (Value.int IntKind.i64 x3)) = wE at *
  have e0 := E.cell (i := 0) rfl; have e1 := E.cell (i := 1) rfl; have e2 := E.cell (i := 2) rfl
  refine bodyPost_ret (by simp [results, Try.results46, go_sem, e0, e1, e2]; try rfl) rfl ?_
  exact ⟨rfl, GE⟩
end Go.Proofs.Ytkmiogaklmgnkaa
