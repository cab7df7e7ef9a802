/- Layer 5 (message): commands through a way. -/
import Derived.Test.YtkmiogaklmgnkaaMsC
import Derived.Test.YtkmiogaklmgnkaaBtI
namespace Go.Proofs.Ytkmiogaklmgnkaa
open Go.RowKit Go.Shelf
set_option linter.unusedVariables false
set_option linter.unusedSimpArgs false
attribute [local go_sem ↓] Go.wp_at_zero Go.wp_at_succ

set_option maxRecDepth 100000 in
set_option maxHeartbeats 1000000 in
theorem commandF {σ : Type} (W : Way σ) {s : σ} {S : Nat → Prop} (c : Cm) (w : World) (h : W.At s S w) (hok : (cmdP c).All W.ok W.step s) (h0 : 0 ≤ c.seq ∧ c.seq ≤ 65535) (h1 : 0 ≤ c.but ∧ c.but ≤ 255) (h2 : -128 ≤ c.dx ∧ c.dx ≤ 127) (h3 : -128 ≤ c.dy ∧ c.dy ≤ 127) :
    Calls Try.prog 43 #[cmV c, W.fv false, W.fv true] w fun e w' => e = .returned (cmV ((cmdP c).run W.step s).1) ∧ ∃ S', W.At ((cmdP c).run W.step s).2 S' w' ∧ Fr S w w' ∧ Sub w S S' := by
  obtain ⟨a0, a1, a2, a3, a4⟩ := c
  obtain ⟨ok0, ok1, ok2, ok3, ok4, _⟩ := hok
  simp only [cmdP, Pg.run_ask, Pg.run_ret] at *
  have c0 := fun S1 w1 (h : W.At s S1 w1) => fieldU16 W false a0 (uns 16) w1 h ok0 h0 (by decide)
  obtain ⟨x0, hx0⟩ : ∃ q, (W.step false s a0 (uns 16)).1 = q := ⟨_, rfl⟩
  obtain ⟨s0, hs0⟩ : ∃ q, (W.step false s a0 (uns 16)).2 = q := ⟨_, rfl⟩
  simp only [hx0, hs0] at *
  have c1 := fun S1 w1 (h : W.At s0 S1 w1) => fieldU8 W false a1 (uns 2) w1 h ok1 h1 (by decide)
  obtain ⟨x1, hx1⟩ : ∃ q, (W.step false s0 a1 (uns 2)).1 = q := ⟨_, rfl⟩
  obtain ⟨s1, hs1⟩ : ∃ q, (W.step false s0 a1 (uns 2)).2 = q := ⟨_, rfl⟩
  simp only [hx1, hs1] at *
  have c2 := fun S1 w1 (h : W.At s1 S1 w1) => fieldI8 W true a2 (sgd 8) w1 h ok2 h2 (by decide)
  obtain ⟨x2, hx2⟩ : ∃ q, (W.step true s1 a2 (sgd 8)).1 = q := ⟨_, rfl⟩
  obtain ⟨s2, hs2⟩ : ∃ q, (W.step true s1 a2 (sgd 8)).2 = q := ⟨_, rfl⟩
  simp only [hx2, hs2] at *
  have c3 := fun S1 w1 (h : W.At s2 S1 w1) => fieldI8 W true a3 (sgd 8) w1 h ok3 h3 (by decide)
  obtain ⟨x3, hx3⟩ : ∃ q, (W.step true s2 a3 (sgd 8)).1 = q := ⟨_, rfl⟩
  obtain ⟨s3, hs3⟩ : ∃ q, (W.step true s2 a3 (sgd 8)).2 = q := ⟨_, rfl⟩
  simp only [hx3, hs3] at *
  have c4 := fun S1 w1 (h : W.At s3 S1 w1) => fieldInt W false (wrap64 (a4 - 1)) rTk w1 h ok4 
  obtain ⟨x4, hx4⟩ : ∃ q, (W.step false s3 (wrap64 (a4 - 1)) rTk).1 = q := ⟨_, rfl⟩
  obtain ⟨s4, hs4⟩ : ∃ q, (W.step false s3 (wrap64 (a4 - 1)) rTk).2 = q := ⟨_, rfl⟩
  simp only [hx4, hs4] at *
  clear hx0 hx1 hx2 hx3 hx4 hs0 hs1 hs2 hs3 hs4 ok0 ok1 ok2 ok3 ok4 h0 h1 h2 h3
  unfold cmV
  dsimp only
  generalize W.fv true = fs at *
  generalize W.fv false = fn at *
  have G0 := Gn.new h
  clear h
  have U16 := unsignedF 16 (by simp)
  have U2 := unsignedF 2 (by simp)
  have S8 := signedF 8 (by simp)
  go_enter Try.func43, Try.ntmps43
  go_wp2_with fail
  have hz1 : (w.alloc (.cells #[.int .u16 a0, .int .u8 a1, .int .i8 a2, .int .i8 a3, .int .i64 a4] 35)).heap.size = w.heap.size + 1 := by simp
  have hz2 : ((w.alloc (.cells #[.int .u16 a0, .int .u8 a1, .int .i8 a2, .int .i8 a3, .int .i64 a4] 35)).alloc (.cells #[.int .u16 0, .int .u8 0, .int .i8 0, .int .i8 0, .int .i64 0] 35)).heap.size = w.heap.size + 1 + 1 := by simp
  have A0 := ((Bq.new w 35 #[.int .u16 a0, .int .u8 a1, .int .i8 a2, .int .i8 a3, .int .i64 a4]).alloc (.cells #[.int .u16 0, .int .u8 0, .int .i8 0, .int .i8 0, .int .i64 0] 35)).alloc (.cells #[.int .u16 0, .int .u8 0, .int .i8 0, .int .i8 0, .int .i64 0] 35)
  have A1 := (Bq.new' 35 #[.int .u16 0, .int .u8 0, .int .i8 0, .int .i8 0, .int .i64 0] hz1).alloc (.cells #[.int .u16 0, .int .u8 0, .int .i8 0, .int .i8 0, .int .i64 0] 35)
  have A2 := Bq.new' 35 #[.int .u16 0, .int .u8 0, .int .i8 0, .int .i8 0, .int .i64 0] hz2
  have G := (((G0.alloc (.cells #[.int .u16 a0, .int .u8 a1, .int .i8 a2, .int .i8 a3, .int .i64 a4] 35)).alloc (.cells #[.int .u16 0, .int .u8 0, .int .i8 0, .int .i8 0, .int .i64 0] 35)).alloc (.cells #[.int .u16 0, .int .u8 0, .int .i8 0, .int .i8 0, .int .i64 0] 35)).mono (Y := fun k => w.heap.size ≤ k ∧ k < w.heap.size + 3) (fun k hk => by simp only [hz1, hz2]; omega)
  clear hz1 hz2 G0
  generalize ((w.alloc (.cells #[.int .u16 a0, .int .u8 a1, .int .i8 a2, .int .i8 a3, .int .i64 a4] 35)).alloc (.cells #[.int .u16 0, .int .u8 0, .int .i8 0, .int .i8 0, .int .i64 0] 35)).alloc (.cells #[.int .u16 0, .int .u8 0, .int .i8 0, .int .i8 0, .int .i64 0] 35) = u0 at *
  -- field 0
  have k0 := A0.cell (i := 0) rfl
  have GD := G.below (below_drewN u0 1)
  have AD0 := A0.below (below_drewN u0 1); have AD1 := A1.below (below_drewN u0 1); have AD2 := A2.below (below_drewN u0 1)
  have kD := AD0.cell (i := 0) rfl
  have HA := hid A0; clear k0 A0 A1 A2 G
  refine region_held (fun u => u.cell? ⟨w.heap.size, 0, none⟩ = some (.int .u16 a0)) 7 rfl (by kernel_rfl) kD ?_
  intro hHeld
  refine takeO 0 (some 8) (v := ?v1) rfl rfl (by kernel_rfl) (by kernel_rfl) (by kernel_rfl) (Or.inl ⟨by rfl, ?y1⟩) hHeld ?r1
  case y1 => (intro w' hSw; (try dsimp only at hSw); go_simp; try with_reducible rfl)
  try simp only [Act.put, List.setIfInBounds_toArray, List.set_cons_zero, List.set_cons_succ]
  refine takeO 1 (some 9) (v := ?v2) rfl rfl (by kernel_rfl) (by kernel_rfl) (by kernel_rfl) (Or.inl ⟨by rfl, ?y2⟩) hHeld ?r2
  case y2 => (intro w' hSw; (try dsimp only at hSw); go_simp; try with_reducible rfl)
  try simp only [Act.put, List.setIfInBounds_toArray, List.set_cons_zero, List.set_cons_succ]
  refine takeO 2 (some 10) (v := ?v3) rfl rfl (by kernel_rfl) (by kernel_rfl) (by kernel_rfl) (Or.inl ⟨by rfl, ?y3⟩) hHeld ?r3
  case y3 => (intro w' hSw; (try dsimp only at hSw); go_simp; try with_reducible rfl)
  try simp only [Act.put, List.setIfInBounds_toArray, List.set_cons_zero, List.set_cons_succ]
  refine wpAnyH_ready (rs := [3]) (by kernel_rfl) (by simp) ?_
  refine AllReadyH.cons rfl (fun K hK => ?_) AllReadyH.nil
  go_simp
  refine (U16 _).mono ?_
  rintro e p0 ⟨rfl, hb⟩
  dsimp only
  have G := GD.below hb
  have A0 := AD0.below hb; have A1 := AD1.below hb; have A2 := AD2.below hb
  clear GD AD0 AD1 AD2 hb kD hHeld HA
  refine hK.out _ _ (A0.cell (i := 0) rfl) (fun hHeld => ?_)
  clear hK K
  refine wpAnyH_ready (rs := [4]) (by kernel_rfl) (by simp) ?_
  refine AllReadyH.cons rfl (fun K hK => ?_) AllReadyH.nil
  go_simp
  refine (G.call (fun S1 h => c0 S1 _ h)).mono ?_
  rintro e q0 ⟨rfl, G', hk, _⟩
  dsimp only
  replace G := G'
  replace A0 := A0.same (hk _ (by omega)); replace A1 := A1.same (hk _ (by omega)); replace A2 := A2.same (hk _ (by omega))
  clear G' hk hHeld
  refine hK.out _ _ (A0.cell (i := 0) rfl) (fun hHeld => ?_)
  clear hK K
  refine takeO 5 (some 13) (v := ?v4) rfl rfl (by kernel_rfl) (by kernel_rfl) (by kernel_rfl) (Or.inl ⟨by rfl, ?y4⟩) hHeld ?r4
  case y4 => (intro w' hSw; (try dsimp only at hSw); go_simp; try with_reducible rfl)
  try simp only [Act.put, List.setIfInBounds_toArray, List.set_cons_zero, List.set_cons_succ]
  refine wpAnyH_ready (rs := [6]) (by kernel_rfl) (by simp) ?_
  refine AllReadyH.cons rfl (fun K hK => ?_) AllReadyH.nil
  have kt := A2.cell (i := 0) rfl
  have ft := A2.thaw
  go_simp
  replace G := G.set (B := w.heap.size + 1 + 1) (by omega) (by omega) 0 (.int .u16 x0)
  replace A2 := A2.set 0 (.int .u16 x0)
  simp only [List.setIfInBounds_toArray, List.set_cons_zero, List.set_cons_succ] at A2
  replace A0 := A0.other (i := 0) (b := w.heap.size + 1 + 1) (by omega) (.int .u16 x0)
  replace A1 := A1.other (i := 0) (b := w.heap.size + 1 + 1) (by omega) (.int .u16 x0)
  clear kt ft hHeld
  refine hK.out _ _ (A0.cell (i := 0) rfl) (fun hHeld => ?_)
  clear hK K hHeld
  refine wpAnyH_done (by kernel_rfl) (Only.on ?_) _
  generalize q0.setCell ⟨w.heap.size + 1 + 1, 0, none⟩ (.int .u16 x0) = u1 at *
  go_wp2_with fail
  -- field 1
  have k0 := A0.cell (i := 1) rfl
  have GD := G.below (below_drewN u1 1)
  have AD0 := A0.below (below_drewN u1 1); have AD1 := A1.below (below_drewN u1 1); have AD2 := A2.below (below_drewN u1 1)
  have kD := AD0.cell (i := 1) rfl
  have HA := hid A0; clear k0 A0 A1 A2 G
  refine region_held (fun u => u.cell? ⟨w.heap.size, 1, none⟩ = some (.int .u8 a1)) 7 rfl (by kernel_rfl) kD ?_
  intro hHeld
  refine takeO 0 (some 14) (v := ?v5) rfl rfl (by kernel_rfl) (by kernel_rfl) (by kernel_rfl) (Or.inl ⟨by rfl, ?y5⟩) hHeld ?r5
  case y5 => (intro w' hSw; (try dsimp only at hSw); go_simp; try with_reducible rfl)
  try simp only [Act.put, List.setIfInBounds_toArray, List.set_cons_zero, List.set_cons_succ]
  refine takeO 1 (some 15) (v := ?v6) rfl rfl (by kernel_rfl) (by kernel_rfl) (by kernel_rfl) (Or.inl ⟨by rfl, ?y6⟩) hHeld ?r6
  case y6 => (intro w' hSw; (try dsimp only at hSw); go_simp; try with_reducible rfl)
  try simp only [Act.put, List.setIfInBounds_toArray, List.set_cons_zero, List.set_cons_succ]
  refine takeO 2 (some 16) (v := ?v7) rfl rfl (by kernel_rfl) (by kernel_rfl) (by kernel_rfl) (Or.inl ⟨by rfl, ?y7⟩) hHeld ?r7
  case y7 => (intro w' hSw; (try dsimp only at hSw); go_simp; try with_reducible rfl)
  try simp only [Act.put, List.setIfInBounds_toArray, List.set_cons_zero, List.set_cons_succ]
  refine wpAnyH_ready (rs := [3]) (by kernel_rfl) (by simp) ?_
  refine AllReadyH.cons rfl (fun K hK => ?_) AllReadyH.nil
  go_simp
  refine (U2 _).mono ?_
  rintro e p1 ⟨rfl, hb⟩
  dsimp only
  have G := GD.below hb
  have A0 := AD0.below hb; have A1 := AD1.below hb; have A2 := AD2.below hb
  clear GD AD0 AD1 AD2 hb kD hHeld HA
  refine hK.out _ _ (A0.cell (i := 1) rfl) (fun hHeld => ?_)
  clear hK K
  refine wpAnyH_ready (rs := [4]) (by kernel_rfl) (by simp) ?_
  refine AllReadyH.cons rfl (fun K hK => ?_) AllReadyH.nil
  go_simp
  refine (G.call (fun S1 h => c1 S1 _ h)).mono ?_
  rintro e q1 ⟨rfl, G', hk, _⟩
  dsimp only
  replace G := G'
  replace A0 := A0.same (hk _ (by omega)); replace A1 := A1.same (hk _ (by omega)); replace A2 := A2.same (hk _ (by omega))
  clear G' hk hHeld
  refine hK.out _ _ (A0.cell (i := 1) rfl) (fun hHeld => ?_)
  clear hK K
  refine takeO 5 (some 19) (v := ?v8) rfl rfl (by kernel_rfl) (by kernel_rfl) (by kernel_rfl) (Or.inl ⟨by rfl, ?y8⟩) hHeld ?r8
  case y8 => (intro w' hSw; (try dsimp only at hSw); go_simp; try with_reducible rfl)
  try simp only [Act.put, List.setIfInBounds_toArray, List.set_cons_zero, List.set_cons_succ]
  refine wpAnyH_ready (rs := [6]) (by kernel_rfl) (by simp) ?_
  refine AllReadyH.cons rfl (fun K hK => ?_) AllReadyH.nil
  have kt := A2.cell (i := 1) rfl
  have ft := A2.thaw
  go_simp
  replace G := G.set (B := w.heap.size + 1 + 1) (by omega) (by omega) 1 (.int .u8 x1)
  replace A2 := A2.set 1 (.int .u8 x1)
  simp only [List.setIfInBounds_toArray, List.set_cons_zero, List.set_cons_succ] at A2
  replace A0 := A0.other (i := 1) (b := w.heap.size + 1 + 1) (by omega) (.int .u8 x1)
  replace A1 := A1.other (i := 1) (b := w.heap.size + 1 + 1) (by omega) (.int .u8 x1)
  clear kt ft hHeld
  refine hK.out _ _ (A0.cell (i := 1) rfl) (fun hHeld => ?_)
  clear hK K hHeld
  refine wpAnyH_done (by kernel_rfl) (Only.on ?_) _
  generalize q1.setCell ⟨w.heap.size + 1 + 1, 1, none⟩ (.int .u8 x1) = u2 at *
  go_wp2_with fail
  -- field 2
  have k0 := A0.cell (i := 2) rfl
  have GD := G.below (below_drewN u2 1)
  have AD0 := A0.below (below_drewN u2 1); have AD1 := A1.below (below_drewN u2 1); have AD2 := A2.below (below_drewN u2 1)
  have kD := AD0.cell (i := 2) rfl
  have HA := hid A0; clear k0 A0 A1 A2 G
  refine region_held (fun u => u.cell? ⟨w.heap.size, 2, none⟩ = some (.int .i8 a2)) 7 rfl (by kernel_rfl) kD ?_
  intro hHeld
  refine takeO 0 (some 20) (v := ?v9) rfl rfl (by kernel_rfl) (by kernel_rfl) (by kernel_rfl) (Or.inl ⟨by rfl, ?y9⟩) hHeld ?r9
  case y9 => (intro w' hSw; (try dsimp only at hSw); go_simp; try with_reducible rfl)
  try simp only [Act.put, List.setIfInBounds_toArray, List.set_cons_zero, List.set_cons_succ]
  refine takeO 1 (some 21) (v := ?v10) rfl rfl (by kernel_rfl) (by kernel_rfl) (by kernel_rfl) (Or.inl ⟨by rfl, ?y10⟩) hHeld ?r10
  case y10 => (intro w' hSw; (try dsimp only at hSw); go_simp; try with_reducible rfl)
  try simp only [Act.put, List.setIfInBounds_toArray, List.set_cons_zero, List.set_cons_succ]
  refine takeO 2 (some 22) (v := ?v11) rfl rfl (by kernel_rfl) (by kernel_rfl) (by kernel_rfl) (Or.inl ⟨by rfl, ?y11⟩) hHeld ?r11
  case y11 => (intro w' hSw; (try dsimp only at hSw); go_simp; try with_reducible rfl)
  try simp only [Act.put, List.setIfInBounds_toArray, List.set_cons_zero, List.set_cons_succ]
  refine wpAnyH_ready (rs := [3]) (by kernel_rfl) (by simp) ?_
  refine AllReadyH.cons rfl (fun K hK => ?_) AllReadyH.nil
  go_simp
  refine (S8 _).mono ?_
  rintro e p2 ⟨rfl, hb⟩
  dsimp only
  have G := GD.below hb
  have A0 := AD0.below hb; have A1 := AD1.below hb; have A2 := AD2.below hb
  clear GD AD0 AD1 AD2 hb kD hHeld HA
  refine hK.out _ _ (A0.cell (i := 2) rfl) (fun hHeld => ?_)
  clear hK K
  refine wpAnyH_ready (rs := [4]) (by kernel_rfl) (by simp) ?_
  refine AllReadyH.cons rfl (fun K hK => ?_) AllReadyH.nil
  go_simp
  refine (G.call (fun S1 h => c2 S1 _ h)).mono ?_
  rintro e q2 ⟨rfl, G', hk, _⟩
  dsimp only
  replace G := G'
  replace A0 := A0.same (hk _ (by omega)); replace A1 := A1.same (hk _ (by omega)); replace A2 := A2.same (hk _ (by omega))
  clear G' hk hHeld
  refine hK.out _ _ (A0.cell (i := 2) rfl) (fun hHeld => ?_)
  clear hK K
  refine takeO 5 (some 25) (v := ?v12) rfl rfl (by kernel_rfl) (by kernel_rfl) (by kernel_rfl) (Or.inl ⟨by rfl, ?y12⟩) hHeld ?r12
  case y12 => (intro w' hSw; (try dsimp only at hSw); go_simp; try with_reducible rfl)
  try simp only [Act.put, List.setIfInBounds_toArray, List.set_cons_zero, List.set_cons_succ]
  refine wpAnyH_ready (rs := [6]) (by kernel_rfl) (by simp) ?_
  refine AllReadyH.cons rfl (fun K hK => ?_) AllReadyH.nil
  have kt := A2.cell (i := 2) rfl
  have ft := A2.thaw
  go_simp
  replace G := G.set (B := w.heap.size + 1 + 1) (by omega) (by omega) 2 (.int .i8 x2)
  replace A2 := A2.set 2 (.int .i8 x2)
  simp only [List.setIfInBounds_toArray, List.set_cons_zero, List.set_cons_succ] at A2
  replace A0 := A0.other (i := 2) (b := w.heap.size + 1 + 1) (by omega) (.int .i8 x2)
  replace A1 := A1.other (i := 2) (b := w.heap.size + 1 + 1) (by omega) (.int .i8 x2)
  clear kt ft hHeld
  refine hK.out _ _ (A0.cell (i := 2) rfl) (fun hHeld => ?_)
  clear hK K hHeld
  refine wpAnyH_done (by kernel_rfl) (Only.on ?_) _
  generalize q2.setCell ⟨w.heap.size + 1 + 1, 2, none⟩ (.int .i8 x2) = u3 at *
  go_wp2_with fail
  -- field 3
  have k0 := A0.cell (i := 3) rfl
  have GD := G.below (below_drewN u3 1)
  have AD0 := A0.below (below_drewN u3 1); have AD1 := A1.below (below_drewN u3 1); have AD2 := A2.below (below_drewN u3 1)
  have kD := AD0.cell (i := 3) rfl
  have HA := hid A0; clear k0 A0 A1 A2 G
  refine region_held (fun u => u.cell? ⟨w.heap.size, 3, none⟩ = some (.int .i8 a3)) 7 rfl (by kernel_rfl) kD ?_
  intro hHeld
  refine takeO 0 (some 26) (v := ?v13) rfl rfl (by kernel_rfl) (by kernel_rfl) (by kernel_rfl) (Or.inl ⟨by rfl, ?y13⟩) hHeld ?r13
  case y13 => (intro w' hSw; (try dsimp only at hSw); go_simp; try with_reducible rfl)
  try simp only [Act.put, List.setIfInBounds_toArray, List.set_cons_zero, List.set_cons_succ]
  refine takeO 1 (some 27) (v := ?v14) rfl rfl (by kernel_rfl) (by kernel_rfl) (by kernel_rfl) (Or.inl ⟨by rfl, ?y14⟩) hHeld ?r14
  case y14 => (intro w' hSw; (try dsimp only at hSw); go_simp; try with_reducible rfl)
  try simp only [Act.put, List.setIfInBounds_toArray, List.set_cons_zero, List.set_cons_succ]
  refine takeO 2 (some 28) (v := ?v15) rfl rfl (by kernel_rfl) (by kernel_rfl) (by kernel_rfl) (Or.inl ⟨by rfl, ?y15⟩) hHeld ?r15
  case y15 => (intro w' hSw; (try dsimp only at hSw); go_simp; try with_reducible rfl)
  try simp only [Act.put, List.setIfInBounds_toArray, List.set_cons_zero, List.set_cons_succ]
  refine wpAnyH_ready (rs := [3]) (by kernel_rfl) (by simp) ?_
  refine AllReadyH.cons rfl (fun K hK => ?_) AllReadyH.nil
  go_simp
  refine (S8 _).mono ?_
  rintro e p3 ⟨rfl, hb⟩
  dsimp only
  have G := GD.below hb
  have A0 := AD0.below hb; have A1 := AD1.below hb; have A2 := AD2.below hb
  clear GD AD0 AD1 AD2 hb kD hHeld HA
  refine hK.out _ _ (A0.cell (i := 3) rfl) (fun hHeld => ?_)
  clear hK K
  refine wpAnyH_ready (rs := [4]) (by kernel_rfl) (by simp) ?_
  refine AllReadyH.cons rfl (fun K hK => ?_) AllReadyH.nil
  go_simp
  refine (G.call (fun S1 h => c3 S1 _ h)).mono ?_
  rintro e q3 ⟨rfl, G', hk, _⟩
  dsimp only
  replace G := G'
  replace A0 := A0.same (hk _ (by omega)); replace A1 := A1.same (hk _ (by omega)); replace A2 := A2.same (hk _ (by omega))
  clear G' hk hHeld
  refine hK.out _ _ (A0.cell (i := 3) rfl) (fun hHeld => ?_)
  clear hK K
  refine takeO 5 (some 31) (v := ?v16) rfl rfl (by kernel_rfl) (by kernel_rfl) (by kernel_rfl) (Or.inl ⟨by rfl, ?y16⟩) hHeld ?r16
  case y16 => (intro w' hSw; (try dsimp only at hSw); go_simp; try with_reducible rfl)
  try simp only [Act.put, List.setIfInBounds_toArray, List.set_cons_zero, List.set_cons_succ]
  refine wpAnyH_ready (rs := [6]) (by kernel_rfl) (by simp) ?_
  refine AllReadyH.cons rfl (fun K hK => ?_) AllReadyH.nil
  have kt := A2.cell (i := 3) rfl
  have ft := A2.thaw
  go_simp
  replace G := G.set (B := w.heap.size + 1 + 1) (by omega) (by omega) 3 (.int .i8 x3)
  replace A2 := A2.set 3 (.int .i8 x3)
  simp only [List.setIfInBounds_toArray, List.set_cons_zero, List.set_cons_succ] at A2
  replace A0 := A0.other (i := 3) (b := w.heap.size + 1 + 1) (by omega) (.int .i8 x3)
  replace A1 := A1.other (i := 3) (b := w.heap.size + 1 + 1) (by omega) (.int .i8 x3)
  clear kt ft hHeld
  refine hK.out _ _ (A0.cell (i := 3) rfl) (fun hHeld => ?_)
  clear hK K hHeld
  refine wpAnyH_done (by kernel_rfl) (Only.on ?_) _
  generalize q3.setCell ⟨w.heap.size + 1 + 1, 3, none⟩ (.int .i8 x3) = u4 at *
  have k4 := A0.cell (i := 4) rfl
  go_wp2_with fail
  refine (G.call (fun S1 h => c4 S1 _ h)).mono ?_
  rintro e q4 ⟨rfl, G', hk, _⟩
  dsimp only
  replace G := G'
  replace A0 := A0.same (hk _ (by omega)); replace A1 := A1.same (hk _ (by omega)); replace A2 := A2.same (hk _ (by omega))
  clear G' hk k4
  have HG := hid G; have H1 := hid A1; have H2 := hid A2
  have k20 := A2.cell (i := 0) rfl; have k21 := A2.cell (i := 1) rfl; have k22 := A2.cell (i := 2) rfl; have k23 := A2.cell (i := 3) rfl; have k24 := A2.cell (i := 4) rfl
  have k10 := A1.cell (i := 0) rfl; have k11 := A1.cell (i := 1) rfl; have k12 := A1.cell (i := 2) rfl; have k13 := A1.cell (i := 3) rfl; have k14 := A1.cell (i := 4) rfl
  have f1 := A1.thaw; have f2 := A2.thaw
  clear G A0 A1 A2
  go_wp2_with fail
  have E := ((((((H1.out.other (i := 4) (b := w.heap.size + 1 + 1) (by omega) (.int .i64 (wrap64 (x4 + 1)))).set 0 (.int .u16 x0)).set 1 (.int .u8 x1)).set 2 (.int .i8 x2)).set 3 (.int .i8 x3)).set 4 (.int .i64 (wrap64 (x4 + 1))))
  simp only [List.setIfInBounds_toArray, List.set_cons_zero, List.set_cons_succ] at E
  have GE := ((((((HG.out.set (B := w.heap.size + 1 + 1) (by omega) (by omega) 4 (.int .i64 (wrap64 (x4 + 1)))).set (B := w.heap.size + 1) (by omega) (by omega) 0 (.int .u16 x0)).set (B := w.heap.size + 1) (by omega) (by omega) 1 (.int .u8 x1)).set (B := w.heap.size + 1) (by omega) (by omega) 2 (.int .i8 x2)).set (B := w.heap.size + 1) (by omega) (by omega) 3 (.int .i8 x3)).set (B := w.heap.size + 1) (by omega) (by omega) 4 (.int .i64 (wrap64 (x4 + 1)))).done
  clear k20 k21 k22 k23 k24 k10 k11 k12 k13 k14 f1 f2 HG H1 H2
  generalize ((((((q4.setCell ⟨w.heap.size + 1 + 1, 4, none⟩ (.int .i64 (wrap64 (x4 + 1)))).setCell ⟨w.heap.size + 1, 0, none⟩ (.int .u16 x0)).setCell ⟨w.heap.size + 1, 1, none⟩ (.int .u8 x1)).setCell ⟨w.heap.size + 1, 2, none⟩ (.int .i8 x2)).setCell ⟨w.heap.size + 1, 3, none⟩ (.int .i8 x3)).setCell ⟨w.heap.size + 1, 4, none⟩ (.int .i64 (wrap64 (x4 + 1)))) = wE at *
  have e0 := E.cell (i := 0) rfl; have e1 := E.cell (i := 1) rfl; have e2 := E.cell (i := 2) rfl; have e3 := E.cell (i := 3) rfl; have e4 := E.cell (i := 4) rfl
  refine bodyPost_ret (by simp [results, Try.results43, go_sem, e0, e1, e2, e3, e4]; try rfl) rfl ?_
  exact ⟨rfl, GE⟩
end Go.Proofs.Ytkmiogaklmgnkaa
