/- Layer 11 (walk): the contract of the document's own Tick. -/
import Derived.Test.YtjjdclckkhddbaaWkD
namespace Go.Proofs.Ytjjdclckkhddbaa
open Go.RowKit
set_option linter.unusedVariables false
set_option linter.unusedSimpArgs false
attribute [local go_sem ↓] Go.wp_at_zero Go.wp_at_succ

set_option maxHeartbeats 4000000 in
theorem ref11Tick (W D H : Int) (mp : Option Addr) (mn mc : Nat) (mf : Nat → Bool) (sp : Option Addr) (sn sc : Nat) (R : Int → Int → Int → Bool) (hR : ∀ x y z, R x y z = true ↔ (mpOf W D H mn mf).Room x y z) (p : Pl) (hpw : p.Wf) (hp : p.Slow) (c : Cm) (hc : c.Wf) (q : Pl) (hq : tick R p c = q) (w : World) (hm : Arg w mp mn mc fun i => .bool (mf i)) :
    Calls Try.prog 14 #[.agg #[.int .i64 W, .int .i64 D, .int .i64 H, .slice mp mn mc, .slice sp sn sc], .agg #[.int .i64 p.id, .int .i64 p.px, .int .i64 p.py, .int .i64 p.pz, .int .i64 p.vx, .int .i64 p.vy, .int .i64 p.vz, .bool p.gr, .int .i64 p.he, .int .i64 p.ar, .int .i64 p.sc, .int .i64 p.a0, .int .i64 p.a1, .int .i64 p.wa, .int .i64 p.de], .agg #[.int .u16 c.sq, .int .u8 c.bt, .int .i8 c.dx, .int .i8 c.dy, .int .i64 c.tk]] w fun e w' => e = .returned (.agg #[.int .i64 q.id, .int .i64 q.px, .int .i64 q.py, .int .i64 q.pz, .int .i64 q.vx, .int .i64 q.vy, .int .i64 q.vz, .bool q.gr, .int .i64 q.he, .int .i64 q.ar, .int .i64 q.sc, .int .i64 q.a0, .int .i64 q.a1, .int .i64 q.wa, .int .i64 q.de]) ∧ Below w.heap.size w w' := by
  have HSL := hid (fun x y z a b c b1 b2 b3 na nb nc hs V (hV : Below w.heap.size w V) => refSlide W D H mp mn mc mf sp sn sc R hR p.px p.py p.pz a b c hpw.x hpw.y hpw.z (i64_near na) (i64_near nb) (i64_near nc) x y z b1 b2 b3 hs V (hm.keep hV))
  have hln := lp_near hp c
  have HQ := hid hq
  have HW := hid (fun d h0 h1 V => refWants d h0 h1 V)
  clear hm hq hR
  have O : O5 ((((w.alloc (.cells #[.int .i64 W, .int .i64 D, .int .i64 H, .slice mp mn mc, .slice sp sn sc] 25)).alloc (.cells #[.int .i64 p.id, .int .i64 p.px, .int .i64 p.py, .int .i64 p.pz, .int .i64 p.vx, .int .i64 p.vy, .int .i64 p.vz, .bool p.gr, .int .i64 p.he, .int .i64 p.ar, .int .i64 p.sc, .int .i64 p.a0, .int .i64 p.a1, .int .i64 p.wa, .int .i64 p.de] 30)).alloc (.cells #[.int .u16 c.sq, .int .u8 c.bt, .int .i8 c.dx, .int .i8 c.dy, .int .i64 c.tk] 34)).alloc (.cells #[.int .i64 0, .int .i64 0, .int .i64 0, .int .i64 0, .int .i64 0, .int .i64 0, .int .i64 0, .bool false, .int .i64 0, .int .i64 0, .int .i64 0, .int .i64 0, .int .i64 0, .int .i64 0, .int .i64 0] 30)) (w.heap.size) (.int .i64 W) (.int .i64 D) (.int .i64 H) (.slice mp mn mc) (.slice sp sn sc) := (((O5.new _ _ _ _ _ _).alloc _).alloc _).alloc _
  have P : PlAt ((((w.alloc (.cells #[.int .i64 W, .int .i64 D, .int .i64 H, .slice mp mn mc, .slice sp sn sc] 25)).alloc (.cells #[.int .i64 p.id, .int .i64 p.px, .int .i64 p.py, .int .i64 p.pz, .int .i64 p.vx, .int .i64 p.vy, .int .i64 p.vz, .bool p.gr, .int .i64 p.he, .int .i64 p.ar, .int .i64 p.sc, .int .i64 p.a0, .int .i64 p.a1, .int .i64 p.wa, .int .i64 p.de] 30)).alloc (.cells #[.int .u16 c.sq, .int .u8 c.bt, .int .i8 c.dx, .int .i8 c.dy, .int .i64 c.tk] 34)).alloc (.cells #[.int .i64 0, .int .i64 0, .int .i64 0, .int .i64 0, .int .i64 0, .int .i64 0, .int .i64 0, .bool false, .int .i64 0, .int .i64 0, .int .i64 0, .int .i64 0, .int .i64 0, .int .i64 0, .int .i64 0] 30)) (w.heap.size + 1) p := ((PlAt.new' _ _ (by simp)).alloc _).alloc _
  have C : CmAt ((((w.alloc (.cells #[.int .i64 W, .int .i64 D, .int .i64 H, .slice mp mn mc, .slice sp sn sc] 25)).alloc (.cells #[.int .i64 p.id, .int .i64 p.px, .int .i64 p.py, .int .i64 p.pz, .int .i64 p.vx, .int .i64 p.vy, .int .i64 p.vz, .bool p.gr, .int .i64 p.he, .int .i64 p.ar, .int .i64 p.sc, .int .i64 p.a0, .int .i64 p.a1, .int .i64 p.wa, .int .i64 p.de] 30)).alloc (.cells #[.int .u16 c.sq, .int .u8 c.bt, .int .i8 c.dx, .int .i8 c.dy, .int .i64 c.tk] 34)).alloc (.cells #[.int .i64 0, .int .i64 0, .int .i64 0, .int .i64 0, .int .i64 0, .int .i64 0, .int .i64 0, .bool false, .int .i64 0, .int .i64 0, .int .i64 0, .int .i64 0, .int .i64 0, .int .i64 0, .int .i64 0] 30)) (w.heap.size + 1 + 1) c := (CmAt.new' _ _ (by simp)).alloc _
  have Q : PlAt ((((w.alloc (.cells #[.int .i64 W, .int .i64 D, .int .i64 H, .slice mp mn mc, .slice sp sn sc] 25)).alloc (.cells #[.int .i64 p.id, .int .i64 p.px, .int .i64 p.py, .int .i64 p.pz, .int .i64 p.vx, .int .i64 p.vy, .int .i64 p.vz, .bool p.gr, .int .i64 p.he, .int .i64 p.ar, .int .i64 p.sc, .int .i64 p.a0, .int .i64 p.a1, .int .i64 p.wa, .int .i64 p.de] 30)).alloc (.cells #[.int .u16 c.sq, .int .u8 c.bt, .int .i8 c.dx, .int .i8 c.dy, .int .i64 c.tk] 34)).alloc (.cells #[.int .i64 0, .int .i64 0, .int .i64 0, .int .i64 0, .int .i64 0, .int .i64 0, .int .i64 0, .bool false, .int .i64 0, .int .i64 0, .int .i64 0, .int .i64 0, .int .i64 0, .int .i64 0, .int .i64 0] 30)) (w.heap.size + 1 + 1 + 1) noPl := PlAt.new' _ noPl (by simp)
  have HB : Below w.heap.size w ((((w.alloc (.cells #[.int .i64 W, .int .i64 D, .int .i64 H, .slice mp mn mc, .slice sp sn sc] 25)).alloc (.cells #[.int .i64 p.id, .int .i64 p.px, .int .i64 p.py, .int .i64 p.pz, .int .i64 p.vx, .int .i64 p.vy, .int .i64 p.vz, .bool p.gr, .int .i64 p.he, .int .i64 p.ar, .int .i64 p.sc, .int .i64 p.a0, .int .i64 p.a1, .int .i64 p.wa, .int .i64 p.de] 30)).alloc (.cells #[.int .u16 c.sq, .int .u8 c.bt, .int .i8 c.dx, .int .i8 c.dy, .int .i64 c.tk] 34)).alloc (.cells #[.int .i64 0, .int .i64 0, .int .i64 0, .int .i64 0, .int .i64 0, .int .i64 0, .int .i64 0, .bool false, .int .i64 0, .int .i64 0, .int .i64 0, .int .i64 0, .int .i64 0, .int .i64 0, .int .i64 0] 30)) := ((((Below.refl _ _).alloc (Nat.le_refl _) _).alloc (by simp) _).alloc (by simp; omega) _).alloc (by simp; omega) _
  go_enter Try.func14, Try.ntmps14
  go_upto_region 1 with fail
  obtain ⟨mb, hmb⟩ : ∃ b, w.heap.size = b := ⟨_, rfl⟩
  have hwm : w.heap.size ≤ mb := by omega
  rw [hmb] at O P C Q
  try simp only [hmb]
  generalize ((((w.alloc (.cells #[.int .i64 W, .int .i64 D, .int .i64 H, .slice mp mn mc, .slice sp sn sc] 25)).alloc (.cells #[.int .i64 p.id, .int .i64 p.px, .int .i64 p.py, .int .i64 p.pz, .int .i64 p.vx, .int .i64 p.vy, .int .i64 p.vz, .bool p.gr, .int .i64 p.he, .int .i64 p.ar, .int .i64 p.sc, .int .i64 p.a0, .int .i64 p.a1, .int .i64 p.wa, .int .i64 p.de] 30)).alloc (.cells #[.int .u16 c.sq, .int .u8 c.bt, .int .i8 c.dx, .int .i8 c.dy, .int .i64 c.tk] 34)).alloc (.cells #[.int .i64 0, .int .i64 0, .int .i64 0, .int .i64 0, .int .i64 0, .int .i64 0, .int .i64 0, .bool false, .int .i64 0, .int .i64 0, .int .i64 0, .int .i64 0, .int .i64 0, .int .i64 0, .int .i64 0] 30)) = V0 at *
  clear hmb
  by_cases hd : p.de > 0
  · skip
    obtain rfl : p = q := (tick_dead hd).symm.trans HQ.out
    have hd0 : 0 < p.de := hd
    obtain ⟨cP0, cP1, cP2, cP3, cP4, cP5, cP6, cP7, cP8, cP9, cP10, cP11, cP12, cP13, cP14⟩ := P.cells
    obtain ⟨cQ0, cQ1, cQ2, cQ3, cQ4, cQ5, cQ6, cQ7, cQ8, cQ9, cQ10, cQ11, cQ12, cQ13, cQ14⟩ := Q.cells
    obtain ⟨tQ0, tQ1, tQ2, tQ3, tQ4, tQ5, tQ6, tQ7, tQ8, tQ9, tQ10, tQ11, tQ12, tQ13, tQ14⟩ := Q.thaw
    go_wp2
    clear cP0 cP1 cP2 cP3 cP4 cP5 cP6 cP7 cP8 cP9 cP10 cP11 cP12 cP13 cP14 cQ0 cQ1 cQ2 cQ3 cQ4 cQ5 cQ6 cQ7 cQ8 cQ9 cQ10 cQ11 cQ12 cQ13 cQ14 tQ0 tQ1 tQ2 tQ3 tQ4 tQ5 tQ6 tQ7 tQ8 tQ9 tQ10 tQ11 tQ12 tQ13 tQ14
    replace HB := below_fr HB (PlAt.allFr _ (mb + 1 + 1 + 1) p) (Nat.le_refl _) (by intro k hk; replace hk : k = mb + 1 + 1 + 1 := hk; omega)
    replace Q := Q.all p
    refine bodyPost_ret (v := .agg #[.int .i64 p.id, .int .i64 p.px, .int .i64 p.py, .int .i64 p.pz, .int .i64 p.vx, .int .i64 p.vy, .int .i64 p.vz, .bool p.gr, .int .i64 p.he, .int .i64 p.ar, .int .i64 p.sc, .int .i64 p.a0, .int .i64 p.a1, .int .i64 p.wa, .int .i64 p.de]) ?_ rfl ⟨rfl, HB⟩
    obtain ⟨cQ0, cQ1, cQ2, cQ3, cQ4, cQ5, cQ6, cQ7, cQ8, cQ9, cQ10, cQ11, cQ12, cQ13, cQ14⟩ := Q.cells
    simp [results, Try.results14, go_sem, cQ0, cQ1, cQ2, cQ3, cQ4, cQ5, cQ6, cQ7, cQ8, cQ9, cQ10, cQ11, cQ12, cQ13, cQ14]
  · skip
    have hd0 : ¬ 0 < p.de := hd
    replace HQ := hid ((tick_alive hd).symm.trans HQ.out)
    obtain ⟨n1, hb1, _, he1⟩ := and_prs 2 hc.b0 hc.b1 (by omega)
    obtain ⟨n2, hb2, he2, _⟩ := and_prs 1 hc.b0 hc.b1 (by omega)
    replace hb1 : bits .and .u8 c.bt 2 = n1 := hb1
    replace hb2 : bits .and .u8 c.bt 1 = n2 := hb2
    obtain ⟨g, hg⟩ : ∃ g, p.gr = g := ⟨_, rfl⟩
    obtain ⟨s, hs⟩ : ∃ s, shr p c = s := ⟨_, rfl⟩
    obtain ⟨z0, hz0⟩ : ∃ n, lp p c = n := ⟨_, rfl⟩
    obtain ⟨j1, hj1⟩ : ∃ j, (n1 == 0) = j := ⟨_, rfl⟩
    obtain ⟨j2, hj2⟩ : ∃ j, (n2 != 0) = j := ⟨_, rfl⟩
    have es : s = if g && j1 then 4 else 16 := by rw [← hs, ← hg, ← hj1, he1]; rfl
    have ez : z0 = if g && j2 then 24576 else p.vz := by rw [← hz0, ← hg, ← hj2, he2]; rfl
    have hss : s = 4 ∨ s = 16 := hs ▸ shr_is p c
    obtain ⟨A0, A1, A2, A3, A4, A5⟩ := ax_wrap hss hc.x0 hc.x1 hp.a0 hp.a1
    obtain ⟨B0, B1, B2, B3, B4, B5⟩ := ax_wrap hss hc.y0 hc.y1 hp.b0 hp.b1
    obtain ⟨x0, hx0⟩ : ∃ n, p.vx + (wnt c.dx - p.vx).tdiv s = n := ⟨_, rfl⟩
    obtain ⟨y0, hy0⟩ : ∃ n, p.vy + (wnt c.dy - p.vy).tdiv s = n := ⟨_, rfl⟩
    have EX := hid (show psh p.vx c.dx (shr p c) = x0 by rw [hs, ← hx0]; rfl)
    have EY := hid (show psh p.vy c.dy (shr p c) = y0 by rw [hs, ← hy0]; rfl)
    rw [hx0] at A5; rw [hy0] at B5
    rw [hz0] at hln
    replace hg := hid hg; replace hz0 := hid hz0; replace hj1 := hid hj1; replace hj2 := hid hj2; replace es := hid es; replace ez := hid ez
    clear he1 he2 hs
    replace hx0 := hid hx0; replace hy0 := hid hy0; replace A2 := hid A2; replace A3 := hid A3; replace A4 := hid A4; replace A5 := hid A5; replace B2 := hid B2; replace B3 := hid B3; replace B4 := hid B4; replace B5 := hid B5; replace hss := hid hss
    replace HB := hid HB; replace HQ := hid HQ.out
    obtain ⟨cP0, cP1, cP2, cP3, cP4, cP5, cP6, cP7, cP8, cP9, cP10, cP11, cP12, cP13, cP14⟩ := P.cells
    go_upto_region 4 with fail
    clear cP0 cP1 cP2 cP3 cP4 cP5 cP6 cP7 cP8 cP9 cP10 cP11 cP12 cP13 cP14
    go_cut [25] from 18 to 24 (fun v wx => v = .bool (g && j1) ∧ wx = V0)
    case first =>
      obtain ⟨cP0, cP1, cP2, cP3, cP4, cP5, cP6, cP7, cP8, cP9, cP10, cP11, cP12, cP13, cP14⟩ := P.cells
      obtain ⟨cC0, cC1, cC2, cC3, cC4⟩ := C.cells
      rw [hg.out] at cP7
      cases g with
      | false => go_wp2; go_meet; exact ⟨rfl, rfl⟩
      | true => go_wp2; go_meet; exact ⟨by rw [← hj1.out]; rfl, rfl⟩
    case rest =>
    obtain ⟨rfl, eU⟩ := hcut
    replace eU := eU.symm
    subst eU
    obtain ⟨i1, hi1⟩ : ∃ i, (g && j1) = i := ⟨_, rfl⟩
    rw [hi1] at es ⊢
    clear hi1
    go_upto_if 25 with fail
    go_cut [7] from 18 to 25 (fun v wx => v = .int .i64 s ∧ wx = V0)
    case first =>
      cases i1 with
      | false => obtain rfl : s = 16 := es.out; go_wp2; go_meet; exact ⟨rfl, rfl⟩
      | true => obtain rfl : s = 4 := es.out; go_wp2; go_meet; exact ⟨rfl, rfl⟩
    case rest =>
    obtain ⟨rfl, eU⟩ := hcut
    replace eU := eU.symm
    subst eU
    go_upto_region 6 with fail
    replace HW := hid (fun d h0 h1 V => (HW.out d h0 h1 V).mono fun e w' (h : _ ∧ _) => (⟨h.1, h.2 ▸ Below.refl _ _⟩ : _ ∧ Below V.heap.size V w'))
    go_cut [8] from 26 to 37 (fun v wx => v = .int .i64 x0 ∧ Below V0.heap.size V0 wx)
    case first =>
      have hss := hss.out
      have z2 := A2.out; have z3 := A3.out; have z4 := A4.out; have z5 := A5.out; have zx := hx0.out
      have k1 := hid (fun V (hV : Below V0.heap.size V0 V) => HW.out c.dx hc.x0 hc.x1 V)
      obtain ⟨n, hn⟩ : ∃ n, wnt c.dx = n := ⟨_, rfl⟩
      rw [hn] at z2 z3 z4 zx k1
      clear hn
      obtain ⟨cP0, cP1, cP2, cP3, cP4, cP5, cP6, cP7, cP8, cP9, cP10, cP11, cP12, cP13, cP14⟩ := P.cells
      obtain ⟨cC0, cC1, cC2, cC3, cC4⟩ := C.cells
      have rc4 := stays cP4
      have rc5 := stays cP5
      have rd2 := stays cC2
      have rd3 := stays cC3
      clear cP0 cP1 cP2 cP3 cP4 cP5 cP6 cP7 cP8 cP9 cP10 cP11 cP12 cP13 cP14 cC0 cC1 cC2 cC3 cC4
      clear O P C Q HB HQ HSL HW EX EY es ez A0 A1 A2 A3 A4 A5 B0 B1 B2 B3 B4 B5 hx0 hy0 hpw hp hc hb1 hb2 hln hg hz0 hj1 hj2
      rcases hss with rfl | rfl
      · skip
        refine region_held (fun w' => Below V0.heap.size V0 w') 14 rfl (by kernel_rfl) (below_drewN V0 1) ?_
        intro hHeld
        refine takeO 0 (some 26) (v := ?v1) rfl rfl (by kernel_rfl) (by kernel_rfl) (by kernel_rfl) (Or.inl ⟨by rfl, ?y1⟩) hHeld ?r1
        case y1 => (intro w' hSw; (try dsimp only at hSw); go_simp; try with_reducible rfl)
        try simp only [Act.put, List.setIfInBounds_toArray, List.set_cons_zero, List.set_cons_succ]
        refine takeO 1 (some 27) (v := ?v2) rfl rfl (by kernel_rfl) (by kernel_rfl) (by kernel_rfl) (Or.inl ⟨by rfl, ?y2⟩) hHeld ?r2
        case y2 => (intro w' hSw; (try dsimp only at hSw); go_simp; try with_reducible rfl)
        try simp only [Act.put, List.setIfInBounds_toArray, List.set_cons_zero, List.set_cons_succ]
        refine takeO 2 (some 28) (v := ?v3) rfl rfl (by kernel_rfl) (by kernel_rfl) (by kernel_rfl) (Or.inl ⟨by rfl, ?y3⟩) hHeld ?r3
        case y3 => (intro w' hSw; (try dsimp only at hSw); go_simp; try with_reducible rfl)
        try simp only [Act.put, List.setIfInBounds_toArray, List.set_cons_zero, List.set_cons_succ]
        refine takeO 3 (some 29) (v := ?v4) rfl rfl (by kernel_rfl) (by kernel_rfl) (by kernel_rfl) (Or.inl ⟨by rfl, ?y4⟩) hHeld ?r4
        case y4 => (intro w' hSw; (try dsimp only at hSw); go_simp; try with_reducible rfl)
        try simp only [Act.put, List.setIfInBounds_toArray, List.set_cons_zero, List.set_cons_succ]
        refine takeO 4 (some 30) (v := ?v5) rfl rfl (by kernel_rfl) (by kernel_rfl) (by kernel_rfl) (Or.inl ⟨by rfl, ?y5⟩) hHeld ?r5
        case y5 => (intro w' hSw; (try dsimp only at hSw); go_simp; try with_reducible rfl)
        try simp only [Act.put, List.setIfInBounds_toArray, List.set_cons_zero, List.set_cons_succ]
        refine takeO 6 (some 32) (v := ?v6) rfl rfl (by kernel_rfl) (by kernel_rfl) (by kernel_rfl) (Or.inl ⟨by rfl, ?y6⟩) hHeld ?r6
        case y6 => (intro w' hSw; (try dsimp only at hSw); go_simp; try with_reducible rfl)
        try simp only [Act.put, List.setIfInBounds_toArray, List.set_cons_zero, List.set_cons_succ]
        refine takeO 7 (some 33) (v := ?v7) rfl rfl (by kernel_rfl) (by kernel_rfl) (by kernel_rfl) (Or.inl ⟨by rfl, ?y7⟩) hHeld ?r7
        case y7 => (intro w' hSw; (try dsimp only at hSw); go_simp; try with_reducible rfl)
        try simp only [Act.put, List.setIfInBounds_toArray, List.set_cons_zero, List.set_cons_succ]
        refine takeO 8 (some 34) (v := ?v8) rfl rfl (by kernel_rfl) (by kernel_rfl) (by kernel_rfl) (Or.inl ⟨by rfl, ?y8⟩) hHeld ?r8
        case y8 => (intro w' hSw; (try dsimp only at hSw); go_simp; try with_reducible rfl)
        try simp only [Act.put, List.setIfInBounds_toArray, List.set_cons_zero, List.set_cons_succ]
        refine takeO 10 (some 36) (v := ?v9) rfl rfl (by kernel_rfl) (by kernel_rfl) (by kernel_rfl) (Or.inl ⟨by rfl, ?y9⟩) hHeld ?r9
        case y9 => (intro w' hSw; (try dsimp only at hSw); go_simp; try with_reducible rfl)
        try simp only [Act.put, List.setIfInBounds_toArray, List.set_cons_zero, List.set_cons_succ]
        refine wpAnyH_ready (rs := [5]) (by kernel_rfl) (by simp) ?_
        refine AllReadyH.cons rfl (fun K hK => ?_) AllReadyH.nil
        go_simp
        refine (k1.out _ (below_drewN V0 1)).mono ?_
        rintro e V21 ⟨rfl, q21⟩
        dsimp only
        have HB21 : Below V0.heap.size V0 V21 := Below.trans (below_drewN V0 1) q21
        refine hK.out _ _ HB21 (fun hHeld => ?_)
        clear hK K q21
        refine takeO 9 (some 35) (v := ?v10) rfl rfl (by kernel_rfl) (by kernel_rfl) (by kernel_rfl) (Or.inl ⟨by rfl, ?y10⟩) hHeld ?r10
        case y10 => (intro w' hSw; (try dsimp only at hSw); go_simp; try with_reducible rfl)
        try simp only [Act.put, List.setIfInBounds_toArray, List.set_cons_zero, List.set_cons_succ]
        refine takeO 11 (some 37) (v := ?v11) rfl rfl (by kernel_rfl) (by kernel_rfl) (by kernel_rfl) (Or.inl ⟨by rfl, ?y11⟩) hHeld ?r11
        case y11 => (intro w' hSw; (try dsimp only at hSw); go_simp; try with_reducible rfl)
        try simp only [Act.put, List.setIfInBounds_toArray, List.set_cons_zero, List.set_cons_succ]
        refine takeO 12 (some 38) (v := ?v12) rfl rfl (by kernel_rfl) (by kernel_rfl) (by kernel_rfl) (Or.inl ⟨by rfl, ?y12⟩) hHeld ?r12
        case y12 => (intro w' hSw; (try dsimp only at hSw); go_simp; try with_reducible rfl)
        try simp only [Act.put, List.setIfInBounds_toArray, List.set_cons_zero, List.set_cons_succ]
        refine takeO 13 (some 8) (v := ?v13) rfl rfl (by kernel_rfl) (by kernel_rfl) (by kernel_rfl) (Or.inl ⟨by rfl, ?y13⟩) hHeld ?r13
        case y13 => (intro w' hSw; (try dsimp only at hSw); go_simp; try with_reducible rfl)
        try simp only [Act.put, List.setIfInBounds_toArray, List.set_cons_zero, List.set_cons_succ]
        refine wpAnyH_done (by kernel_rfl) (Only.on ?_) _
        clear hHeld
        go_wp2
        go_meet
        exact ⟨rfl, HB21⟩
      · skip
        refine region_held (fun w' => Below V0.heap.size V0 w') 14 rfl (by kernel_rfl) (below_drewN V0 1) ?_
        intro hHeld
        refine takeO 0 (some 26) (v := ?v14) rfl rfl (by kernel_rfl) (by kernel_rfl) (by kernel_rfl) (Or.inl ⟨by rfl, ?y14⟩) hHeld ?r14
        case y14 => (intro w' hSw; (try dsimp only at hSw); go_simp; try with_reducible rfl)
        try simp only [Act.put, List.setIfInBounds_toArray, List.set_cons_zero, List.set_cons_succ]
        refine takeO 1 (some 27) (v := ?v15) rfl rfl (by kernel_rfl) (by kernel_rfl) (by kernel_rfl) (Or.inl ⟨by rfl, ?y15⟩) hHeld ?r15
        case y15 => (intro w' hSw; (try dsimp only at hSw); go_simp; try with_reducible rfl)
        try simp only [Act.put, List.setIfInBounds_toArray, List.set_cons_zero, List.set_cons_succ]
        refine takeO 2 (some 28) (v := ?v16) rfl rfl (by kernel_rfl) (by kernel_rfl) (by kernel_rfl) (Or.inl ⟨by rfl, ?y16⟩) hHeld ?r16
        case y16 => (intro w' hSw; (try dsimp only at hSw); go_simp; try with_reducible rfl)
        try simp only [Act.put, List.setIfInBounds_toArray, List.set_cons_zero, List.set_cons_succ]
        refine takeO 3 (some 29) (v := ?v17) rfl rfl (by kernel_rfl) (by kernel_rfl) (by kernel_rfl) (Or.inl ⟨by rfl, ?y17⟩) hHeld ?r17
        case y17 => (intro w' hSw; (try dsimp only at hSw); go_simp; try with_reducible rfl)
        try simp only [Act.put, List.setIfInBounds_toArray, List.set_cons_zero, List.set_cons_succ]
        refine takeO 4 (some 30) (v := ?v18) rfl rfl (by kernel_rfl) (by kernel_rfl) (by kernel_rfl) (Or.inl ⟨by rfl, ?y18⟩) hHeld ?r18
        case y18 => (intro w' hSw; (try dsimp only at hSw); go_simp; try with_reducible rfl)
        try simp only [Act.put, List.setIfInBounds_toArray, List.set_cons_zero, List.set_cons_succ]
        refine takeO 6 (some 32) (v := ?v19) rfl rfl (by kernel_rfl) (by kernel_rfl) (by kernel_rfl) (Or.inl ⟨by rfl, ?y19⟩) hHeld ?r19
        case y19 => (intro w' hSw; (try dsimp only at hSw); go_simp; try with_reducible rfl)
        try simp only [Act.put, List.setIfInBounds_toArray, List.set_cons_zero, List.set_cons_succ]
        refine takeO 7 (some 33) (v := ?v20) rfl rfl (by kernel_rfl) (by kernel_rfl) (by kernel_rfl) (Or.inl ⟨by rfl, ?y20⟩) hHeld ?r20
        case y20 => (intro w' hSw; (try dsimp only at hSw); go_simp; try with_reducible rfl)
        try simp only [Act.put, List.setIfInBounds_toArray, List.set_cons_zero, List.set_cons_succ]
        refine takeO 8 (some 34) (v := ?v21) rfl rfl (by kernel_rfl) (by kernel_rfl) (by kernel_rfl) (Or.inl ⟨by rfl, ?y21⟩) hHeld ?r21
        case y21 => (intro w' hSw; (try dsimp only at hSw); go_simp; try with_reducible rfl)
        try simp only [Act.put, List.setIfInBounds_toArray, List.set_cons_zero, List.set_cons_succ]
        refine takeO 10 (some 36) (v := ?v22) rfl rfl (by kernel_rfl) (by kernel_rfl) (by kernel_rfl) (Or.inl ⟨by rfl, ?y22⟩) hHeld ?r22
        case y22 => (intro w' hSw; (try dsimp only at hSw); go_simp; try with_reducible rfl)
        try simp only [Act.put, List.setIfInBounds_toArray, List.set_cons_zero, List.set_cons_succ]
        refine wpAnyH_ready (rs := [5]) (by kernel_rfl) (by simp) ?_
        refine AllReadyH.cons rfl (fun K hK => ?_) AllReadyH.nil
        go_simp
        refine (k1.out _ (below_drewN V0 1)).mono ?_
        rintro e V21 ⟨rfl, q21⟩
        dsimp only
        have HB21 : Below V0.heap.size V0 V21 := Below.trans (below_drewN V0 1) q21
        refine hK.out _ _ HB21 (fun hHeld => ?_)
        clear hK K q21
        refine takeO 9 (some 35) (v := ?v23) rfl rfl (by kernel_rfl) (by kernel_rfl) (by kernel_rfl) (Or.inl ⟨by rfl, ?y23⟩) hHeld ?r23
        case y23 => (intro w' hSw; (try dsimp only at hSw); go_simp; try with_reducible rfl)
        try simp only [Act.put, List.setIfInBounds_toArray, List.set_cons_zero, List.set_cons_succ]
        refine takeO 11 (some 37) (v := ?v24) rfl rfl (by kernel_rfl) (by kernel_rfl) (by kernel_rfl) (Or.inl ⟨by rfl, ?y24⟩) hHeld ?r24
        case y24 => (intro w' hSw; (try dsimp only at hSw); go_simp; try with_reducible rfl)
        try simp only [Act.put, List.setIfInBounds_toArray, List.set_cons_zero, List.set_cons_succ]
        refine takeO 12 (some 38) (v := ?v25) rfl rfl (by kernel_rfl) (by kernel_rfl) (by kernel_rfl) (Or.inl ⟨by rfl, ?y25⟩) hHeld ?r25
        case y25 => (intro w' hSw; (try dsimp only at hSw); go_simp; try with_reducible rfl)
        try simp only [Act.put, List.setIfInBounds_toArray, List.set_cons_zero, List.set_cons_succ]
        refine takeO 13 (some 8) (v := ?v26) rfl rfl (by kernel_rfl) (by kernel_rfl) (by kernel_rfl) (Or.inl ⟨by rfl, ?y26⟩) hHeld ?r26
        case y26 => (intro w' hSw; (try dsimp only at hSw); go_simp; try with_reducible rfl)
        try simp only [Act.put, List.setIfInBounds_toArray, List.set_cons_zero, List.set_cons_succ]
        refine wpAnyH_done (by kernel_rfl) (Only.on ?_) _
        clear hHeld
        go_wp2
        go_meet
        exact ⟨rfl, HB21⟩
    case rest =>
    obtain ⟨rfl, G⟩ := hcut
    obtain ⟨V1, hV1⟩ : ∃ V, wc = V := ⟨_, rfl⟩
    rw [hV1] at G ⊢
    clear hV1
    replace O := O.keep G; replace P := P.keep G; replace C := C.keep G; replace Q := Q.keep G; replace HB := hid (btrans HB.out G)
    clear G
    go_upto_region 7 with fail
    go_cut [9] from 39 to 50 (fun v wx => v = .int .i64 y0 ∧ Below V1.heap.size V1 wx)
    case first =>
      have hss := hss.out
      have z2 := B2.out; have z3 := B3.out; have z4 := B4.out; have z5 := B5.out; have zx := hy0.out
      have k1 := hid (fun V (hV : Below V1.heap.size V1 V) => HW.out c.dy hc.y0 hc.y1 V)
      obtain ⟨n, hn⟩ : ∃ n, wnt c.dy = n := ⟨_, rfl⟩
      rw [hn] at z2 z3 z4 zx k1
      clear hn
      obtain ⟨cP0, cP1, cP2, cP3, cP4, cP5, cP6, cP7, cP8, cP9, cP10, cP11, cP12, cP13, cP14⟩ := P.cells
      obtain ⟨cC0, cC1, cC2, cC3, cC4⟩ := C.cells
      have rc4 := stays cP4
      have rc5 := stays cP5
      have rd2 := stays cC2
      have rd3 := stays cC3
      clear cP0 cP1 cP2 cP3 cP4 cP5 cP6 cP7 cP8 cP9 cP10 cP11 cP12 cP13 cP14 cC0 cC1 cC2 cC3 cC4
      clear O P C Q HB HQ HSL HW EX EY es ez A0 A1 A2 A3 A4 A5 B0 B1 B2 B3 B4 B5 hx0 hy0 hpw hp hc hb1 hb2 hln hg hz0 hj1 hj2
      rcases hss with rfl | rfl
      · skip
        refine region_held (fun w' => Below V1.heap.size V1 w') 14 rfl (by kernel_rfl) (below_drewN V1 1) ?_
        intro hHeld
        refine takeO 0 (some 39) (v := ?v27) rfl rfl (by kernel_rfl) (by kernel_rfl) (by kernel_rfl) (Or.inl ⟨by rfl, ?y27⟩) hHeld ?r27
        case y27 => (intro w' hSw; (try dsimp only at hSw); go_simp; try with_reducible rfl)
        try simp only [Act.put, List.setIfInBounds_toArray, List.set_cons_zero, List.set_cons_succ]
        refine takeO 1 (some 40) (v := ?v28) rfl rfl (by kernel_rfl) (by kernel_rfl) (by kernel_rfl) (Or.inl ⟨by rfl, ?y28⟩) hHeld ?r28
        case y28 => (intro w' hSw; (try dsimp only at hSw); go_simp; try with_reducible rfl)
        try simp only [Act.put, List.setIfInBounds_toArray, List.set_cons_zero, List.set_cons_succ]
        refine takeO 2 (some 41) (v := ?v29) rfl rfl (by kernel_rfl) (by kernel_rfl) (by kernel_rfl) (Or.inl ⟨by rfl, ?y29⟩) hHeld ?r29
        case y29 => (intro w' hSw; (try dsimp only at hSw); go_simp; try with_reducible rfl)
        try simp only [Act.put, List.setIfInBounds_toArray, List.set_cons_zero, List.set_cons_succ]
        refine takeO 3 (some 42) (v := ?v30) rfl rfl (by kernel_rfl) (by kernel_rfl) (by kernel_rfl) (Or.inl ⟨by rfl, ?y30⟩) hHeld ?r30
        case y30 => (intro w' hSw; (try dsimp only at hSw); go_simp; try with_reducible rfl)
        try simp only [Act.put, List.setIfInBounds_toArray, List.set_cons_zero, List.set_cons_succ]
        refine takeO 4 (some 43) (v := ?v31) rfl rfl (by kernel_rfl) (by kernel_rfl) (by kernel_rfl) (Or.inl ⟨by rfl, ?y31⟩) hHeld ?r31
        case y31 => (intro w' hSw; (try dsimp only at hSw); go_simp; try with_reducible rfl)
        try simp only [Act.put, List.setIfInBounds_toArray, List.set_cons_zero, List.set_cons_succ]
        refine takeO 6 (some 45) (v := ?v32) rfl rfl (by kernel_rfl) (by kernel_rfl) (by kernel_rfl) (Or.inl ⟨by rfl, ?y32⟩) hHeld ?r32
        case y32 => (intro w' hSw; (try dsimp only at hSw); go_simp; try with_reducible rfl)
        try simp only [Act.put, List.setIfInBounds_toArray, List.set_cons_zero, List.set_cons_succ]
        refine takeO 7 (some 46) (v := ?v33) rfl rfl (by kernel_rfl) (by kernel_rfl) (by kernel_rfl) (Or.inl ⟨by rfl, ?y33⟩) hHeld ?r33
        case y33 => (intro w' hSw; (try dsimp only at hSw); go_simp; try with_reducible rfl)
        try simp only [Act.put, List.setIfInBounds_toArray, List.set_cons_zero, List.set_cons_succ]
        refine takeO 8 (some 47) (v := ?v34) rfl rfl (by kernel_rfl) (by kernel_rfl) (by kernel_rfl) (Or.inl ⟨by rfl, ?y34⟩) hHeld ?r34
        case y34 => (intro w' hSw; (try dsimp only at hSw); go_simp; try with_reducible rfl)
        try simp only [Act.put, List.setIfInBounds_toArray, List.set_cons_zero, List.set_cons_succ]
        refine takeO 10 (some 49) (v := ?v35) rfl rfl (by kernel_rfl) (by kernel_rfl) (by kernel_rfl) (Or.inl ⟨by rfl, ?y35⟩) hHeld ?r35
        case y35 => (intro w' hSw; (try dsimp only at hSw); go_simp; try with_reducible rfl)
        try simp only [Act.put, List.setIfInBounds_toArray, List.set_cons_zero, List.set_cons_succ]
        refine wpAnyH_ready (rs := [5]) (by kernel_rfl) (by simp) ?_
        refine AllReadyH.cons rfl (fun K hK => ?_) AllReadyH.nil
        go_simp
        refine (k1.out _ (below_drewN V1 1)).mono ?_
        rintro e V21 ⟨rfl, q21⟩
        dsimp only
        have HB21 : Below V1.heap.size V1 V21 := Below.trans (below_drewN V1 1) q21
        refine hK.out _ _ HB21 (fun hHeld => ?_)
        clear hK K q21
        refine takeO 9 (some 48) (v := ?v36) rfl rfl (by kernel_rfl) (by kernel_rfl) (by kernel_rfl) (Or.inl ⟨by rfl, ?y36⟩) hHeld ?r36
        case y36 => (intro w' hSw; (try dsimp only at hSw); go_simp; try with_reducible rfl)
        try simp only [Act.put, List.setIfInBounds_toArray, List.set_cons_zero, List.set_cons_succ]
        refine takeO 11 (some 50) (v := ?v37) rfl rfl (by kernel_rfl) (by kernel_rfl) (by kernel_rfl) (Or.inl ⟨by rfl, ?y37⟩) hHeld ?r37
        case y37 => (intro w' hSw; (try dsimp only at hSw); go_simp; try with_reducible rfl)
        try simp only [Act.put, List.setIfInBounds_toArray, List.set_cons_zero, List.set_cons_succ]
        refine takeO 12 (some 51) (v := ?v38) rfl rfl (by kernel_rfl) (by kernel_rfl) (by kernel_rfl) (Or.inl ⟨by rfl, ?y38⟩) hHeld ?r38
        case y38 => (intro w' hSw; (try dsimp only at hSw); go_simp; try with_reducible rfl)
        try simp only [Act.put, List.setIfInBounds_toArray, List.set_cons_zero, List.set_cons_succ]
        refine takeO 13 (some 9) (v := ?v39) rfl rfl (by kernel_rfl) (by kernel_rfl) (by kernel_rfl) (Or.inl ⟨by rfl, ?y39⟩) hHeld ?r39
        case y39 => (intro w' hSw; (try dsimp only at hSw); go_simp; try with_reducible rfl)
        try simp only [Act.put, List.setIfInBounds_toArray, List.set_cons_zero, List.set_cons_succ]
        refine wpAnyH_done (by kernel_rfl) (Only.on ?_) _
        clear hHeld
        go_wp2
        go_meet
        exact ⟨rfl, HB21⟩
      · skip
        refine region_held (fun w' => Below V1.heap.size V1 w') 14 rfl (by kernel_rfl) (below_drewN V1 1) ?_
        intro hHeld
        refine takeO 0 (some 39) (v := ?v40) rfl rfl (by kernel_rfl) (by kernel_rfl) (by kernel_rfl) (Or.inl ⟨by rfl, ?y40⟩) hHeld ?r40
        case y40 => (intro w' hSw; (try dsimp only at hSw); go_simp; try with_reducible rfl)
        try simp only [Act.put, List.setIfInBounds_toArray, List.set_cons_zero, List.set_cons_succ]
        refine takeO 1 (some 40) (v := ?v41) rfl rfl (by kernel_rfl) (by kernel_rfl) (by kernel_rfl) (Or.inl ⟨by rfl, ?y41⟩) hHeld ?r41
        case y41 => (intro w' hSw; (try dsimp only at hSw); go_simp; try with_reducible rfl)
        try simp only [Act.put, List.setIfInBounds_toArray, List.set_cons_zero, List.set_cons_succ]
        refine takeO 2 (some 41) (v := ?v42) rfl rfl (by kernel_rfl) (by kernel_rfl) (by kernel_rfl) (Or.inl ⟨by rfl, ?y42⟩) hHeld ?r42
        case y42 => (intro w' hSw; (try dsimp only at hSw); go_simp; try with_reducible rfl)
        try simp only [Act.put, List.setIfInBounds_toArray, List.set_cons_zero, List.set_cons_succ]
        refine takeO 3 (some 42) (v := ?v43) rfl rfl (by kernel_rfl) (by kernel_rfl) (by kernel_rfl) (Or.inl ⟨by rfl, ?y43⟩) hHeld ?r43
        case y43 => (intro w' hSw; (try dsimp only at hSw); go_simp; try with_reducible rfl)
        try simp only [Act.put, List.setIfInBounds_toArray, List.set_cons_zero, List.set_cons_succ]
        refine takeO 4 (some 43) (v := ?v44) rfl rfl (by kernel_rfl) (by kernel_rfl) (by kernel_rfl) (Or.inl ⟨by rfl, ?y44⟩) hHeld ?r44
        case y44 => (intro w' hSw; (try dsimp only at hSw); go_simp; try with_reducible rfl)
        try simp only [Act.put, List.setIfInBounds_toArray, List.set_cons_zero, List.set_cons_succ]
        refine takeO 6 (some 45) (v := ?v45) rfl rfl (by kernel_rfl) (by kernel_rfl) (by kernel_rfl) (Or.inl ⟨by rfl, ?y45⟩) hHeld ?r45
        case y45 => (intro w' hSw; (try dsimp only at hSw); go_simp; try with_reducible rfl)
        try simp only [Act.put, List.setIfInBounds_toArray, List.set_cons_zero, List.set_cons_succ]
        refine takeO 7 (some 46) (v := ?v46) rfl rfl (by kernel_rfl) (by kernel_rfl) (by kernel_rfl) (Or.inl ⟨by rfl, ?y46⟩) hHeld ?r46
        case y46 => (intro w' hSw; (try dsimp only at hSw); go_simp; try with_reducible rfl)
        try simp only [Act.put, List.setIfInBounds_toArray, List.set_cons_zero, List.set_cons_succ]
        refine takeO 8 (some 47) (v := ?v47) rfl rfl (by kernel_rfl) (by kernel_rfl) (by kernel_rfl) (Or.inl ⟨by rfl, ?y47⟩) hHeld ?r47
        case y47 => (intro w' hSw; (try dsimp only at hSw); go_simp; try with_reducible rfl)
        try simp only [Act.put, List.setIfInBounds_toArray, List.set_cons_zero, List.set_cons_succ]
        refine takeO 10 (some 49) (v := ?v48) rfl rfl (by kernel_rfl) (by kernel_rfl) (by kernel_rfl) (Or.inl ⟨by rfl, ?y48⟩) hHeld ?r48
        case y48 => (intro w' hSw; (try dsimp only at hSw); go_simp; try with_reducible rfl)
        try simp only [Act.put, List.setIfInBounds_toArray, List.set_cons_zero, List.set_cons_succ]
        refine wpAnyH_ready (rs := [5]) (by kernel_rfl) (by simp) ?_
        refine AllReadyH.cons rfl (fun K hK => ?_) AllReadyH.nil
        go_simp
        refine (k1.out _ (below_drewN V1 1)).mono ?_
        rintro e V21 ⟨rfl, q21⟩
        dsimp only
        have HB21 : Below V1.heap.size V1 V21 := Below.trans (below_drewN V1 1) q21
        refine hK.out _ _ HB21 (fun hHeld => ?_)
        clear hK K q21
        refine takeO 9 (some 48) (v := ?v49) rfl rfl (by kernel_rfl) (by kernel_rfl) (by kernel_rfl) (Or.inl ⟨by rfl, ?y49⟩) hHeld ?r49
        case y49 => (intro w' hSw; (try dsimp only at hSw); go_simp; try with_reducible rfl)
        try simp only [Act.put, List.setIfInBounds_toArray, List.set_cons_zero, List.set_cons_succ]
        refine takeO 11 (some 50) (v := ?v50) rfl rfl (by kernel_rfl) (by kernel_rfl) (by kernel_rfl) (Or.inl ⟨by rfl, ?y50⟩) hHeld ?r50
        case y50 => (intro w' hSw; (try dsimp only at hSw); go_simp; try with_reducible rfl)
        try simp only [Act.put, List.setIfInBounds_toArray, List.set_cons_zero, List.set_cons_succ]
        refine takeO 12 (some 51) (v := ?v51) rfl rfl (by kernel_rfl) (by kernel_rfl) (by kernel_rfl) (Or.inl ⟨by rfl, ?y51⟩) hHeld ?r51
        case y51 => (intro w' hSw; (try dsimp only at hSw); go_simp; try with_reducible rfl)
        try simp only [Act.put, List.setIfInBounds_toArray, List.set_cons_zero, List.set_cons_succ]
        refine takeO 13 (some 9) (v := ?v52) rfl rfl (by kernel_rfl) (by kernel_rfl) (by kernel_rfl) (Or.inl ⟨by rfl, ?y52⟩) hHeld ?r52
        case y52 => (intro w' hSw; (try dsimp only at hSw); go_simp; try with_reducible rfl)
        try simp only [Act.put, List.setIfInBounds_toArray, List.set_cons_zero, List.set_cons_succ]
        refine wpAnyH_done (by kernel_rfl) (Only.on ?_) _
        clear hHeld
        go_wp2
        go_meet
        exact ⟨rfl, HB21⟩
    case rest =>
    obtain ⟨rfl, G⟩ := hcut
    obtain ⟨V2, hV2⟩ : ∃ V, wc = V := ⟨_, rfl⟩
    rw [hV2] at G ⊢
    clear hV2
    replace O := O.keep G; replace P := P.keep G; replace C := C.keep G; replace Q := Q.keep G; replace HB := hid (btrans HB.out G)
    clear G
    clear HW A0 A1 A2 A3 A4 A5 B0 B1 B2 B3 B4 B5 hx0 hy0 hss es hb1
    obtain ⟨cP0, cP1, cP2, cP3, cP4, cP5, cP6, cP7, cP8, cP9, cP10, cP11, cP12, cP13, cP14⟩ := P.cells
    go_upto_region 9 with fail
    clear cP0 cP1 cP2 cP3 cP4 cP5 cP6 cP7 cP8 cP9 cP10 cP11 cP12 cP13 cP14
    go_cut [62] from 55 to 61 (fun v wx => v = .bool (g && j2) ∧ wx = V2)
    case first =>
      obtain ⟨cP0, cP1, cP2, cP3, cP4, cP5, cP6, cP7, cP8, cP9, cP10, cP11, cP12, cP13, cP14⟩ := P.cells
      obtain ⟨cC0, cC1, cC2, cC3, cC4⟩ := C.cells
      rw [hg.out] at cP7
      cases g with
      | false => go_wp2; go_meet; exact ⟨rfl, rfl⟩
      | true => go_wp2; go_meet; exact ⟨by rw [← hj2.out]; rfl, rfl⟩
    case rest =>
    obtain ⟨rfl, eU⟩ := hcut
    replace eU := eU.symm
    subst eU
    obtain ⟨i1, hi1⟩ : ∃ i, (g && j2) = i := ⟨_, rfl⟩
    rw [hi1] at ez ⊢
    clear hi1 hb2
    go_upto_if 62 with fail
    go_cut [10] from 55 to 62 (fun v wx => v = .int .i64 z0 ∧ wx = V2)
    case first =>
      cases i1 with
      | false => obtain rfl : z0 = p.vz := ez.out; go_wp2; go_meet; exact ⟨rfl, rfl⟩
      | true => obtain rfl : z0 = 24576 := ez.out; go_wp2; go_meet; exact ⟨rfl, rfl⟩
    case rest =>
    obtain ⟨rfl, eU⟩ := hcut
    replace eU := eU.symm
    subst eU
    have ew : IntKind.i64.wrap (z0 - 1024) = z0 - 1024 := wrapI (by omega) (by omega)
    go_wp2_with fail
    refine (refCt _ _).mono ?_; rintro e W1 ⟨rfl, hv⟩
    replace hv := hv.symm; subst hv
    go_wp2_with fail
    refine (refCt _ _).mono ?_; rintro e W1 ⟨rfl, hv⟩
    replace hv := hv.symm; subst hv
    go_wp2_with fail
    refine (refCt _ _).mono ?_; rintro e W1 ⟨rfl, hv⟩
    replace hv := hv.symm; subst hv
    have nx1 := ct_near x0
    obtain ⟨x1, hx1⟩ : ∃ n, ct x0 = n := ⟨_, rfl⟩
    rw [hx1] at nx1 ⊢
    replace hx1 := hid hx1
    have ny1 := ct_near y0
    obtain ⟨y1, hy1⟩ : ∃ n, ct y0 = n := ⟨_, rfl⟩
    rw [hy1] at ny1 ⊢
    replace hy1 := hid hy1
    have nz1 := ct_near (z0 - 1024)
    obtain ⟨z1, hz1⟩ : ∃ n, ct (z0 - 1024) = n := ⟨_, rfl⟩
    rw [hz1] at nz1 ⊢
    replace hz1 := hid hz1
    have ex : vlx p c = x1 := by unfold vlx; rw [EX.out]; exact hx1.out
    have ey : vly p c = y1 := by unfold vly; rw [EY.out]; exact hy1.out
    have ezz : vlz p c = z1 := by unfold vlz; rw [hz0.out]; exact hz1.out
    have HQ2 := HQ.out
    rw [ex, ey, ezz] at HQ2
    obtain ⟨x, y, z, b1, b2, b3, hs, hqe⟩ := mvdR_slid R p x1 y1 z1
    rw [hqe] at HQ2
    have hs' : Slid R p.px p.py p.pz (fclamp x1 32768) (fclamp y1 32768) (fclamp z1 32768) x y z b1 b2 b3 := by rw [cl_id nx1.1 nx1.2, cl_id ny1.1 ny1.2, cl_id nz1.1 nz1.2]; exact hs
    replace HSL := hid (fun V hV => HSL.out x y z x1 y1 z1 b1 b2 b3 nx1 ny1 nz1 hs' V hV)
    replace HQ := hid HQ2
    clear hs hs' hqe HQ2 ex ey ezz hx1 hy1 hz1 EX EY hz0 ez ew nx1 ny1 nz1 hln hj1 hj2 hg hpw hp hc hd hd0
    replace HB := HB.out
    go_upto_region 12 with fail
    have lQ := Q.lt
    replace O := O.alloc (.cells #[.int .i64 x1, .int .i64 y1, .int .i64 z1] 27)
    replace P := P.alloc (.cells #[.int .i64 x1, .int .i64 y1, .int .i64 z1] 27)
    replace C := C.alloc (.cells #[.int .i64 x1, .int .i64 y1, .int .i64 z1] 27)
    replace Q := Q.alloc (.cells #[.int .i64 x1, .int .i64 y1, .int .i64 z1] 27)
    replace HB := HB.alloc HB.size (.cells #[.int .i64 x1, .int .i64 y1, .int .i64 z1] 27)
    have K := O3.new V2 27 (.int .i64 x1) (.int .i64 y1) (.int .i64 z1)
    obtain ⟨kb, hkb⟩ : ∃ b, V2.heap.size = b := ⟨_, rfl⟩
    rw [hkb] at K lQ
    try simp only [hkb]
    generalize V2.alloc (.cells #[.int .i64 x1, .int .i64 y1, .int .i64 z1] 27) = V3 at *
    clear hkb
    obtain ⟨cO0, cO1, cO2, cO3, cO4⟩ := O.cells
    obtain ⟨cP0, cP1, cP2, cP3, cP4, cP5, cP6, cP7, cP8, cP9, cP10, cP11, cP12, cP13, cP14⟩ := P.cells
    obtain ⟨cK0, cK1, cK2⟩ := K.cells
    go_wp2_with fail
    refine (HSL.out _ HB).mono ?_; rintro e V4 ⟨rfl, bq⟩
    clear cO0 cO1 cO2 cO3 cO4 cP0 cP1 cP2 cP3 cP4 cP5 cP6 cP7 cP8 cP9 cP10 cP11 cP12 cP13 cP14 cK0 cK1 cK2
    replace O := O.keep bq; replace P := P.keep bq; replace C := C.keep bq; replace Q := Q.keep bq; replace K := K.keep bq; replace HB := btrans HB bq
    clear bq
    go_upto_region 13 with fail
    have lQ2 := Q.lt; have lK2 := K.lt
    replace O := O.alloc (.cells #[.int .i64 x, .int .i64 y, .int .i64 z] 27)
    replace P := P.alloc (.cells #[.int .i64 x, .int .i64 y, .int .i64 z] 27)
    replace C := C.alloc (.cells #[.int .i64 x, .int .i64 y, .int .i64 z] 27)
    replace Q := Q.alloc (.cells #[.int .i64 x, .int .i64 y, .int .i64 z] 27)
    replace K := K.alloc (.cells #[.int .i64 x, .int .i64 y, .int .i64 z] 27)
    replace HB := HB.alloc HB.size (.cells #[.int .i64 x, .int .i64 y, .int .i64 z] 27)
    have NP := O3.new V4 27 (.int .i64 x) (.int .i64 y) (.int .i64 z)
    replace O := O.alloc (.cells #[.bool b1, .bool b2, .bool b3] 57)
    replace P := P.alloc (.cells #[.bool b1, .bool b2, .bool b3] 57)
    replace C := C.alloc (.cells #[.bool b1, .bool b2, .bool b3] 57)
    replace Q := Q.alloc (.cells #[.bool b1, .bool b2, .bool b3] 57)
    replace K := K.alloc (.cells #[.bool b1, .bool b2, .bool b3] 57)
    replace HB := HB.alloc HB.size (.cells #[.bool b1, .bool b2, .bool b3] 57)
    replace NP := NP.alloc (.cells #[.bool b1, .bool b2, .bool b3] 57)
    have NQ := O3.new (V4.alloc (.cells #[.int .i64 x, .int .i64 y, .int .i64 z] 27)) 57 (.bool b1) (.bool b2) (.bool b3)
    have hz : (V4.alloc (.cells #[.int .i64 x, .int .i64 y, .int .i64 z] 27)).heap.size = V4.heap.size + 1 := by simp
    rw [hz] at NQ
    obtain ⟨pb, hpb⟩ : ∃ b, V4.heap.size = b := ⟨_, rfl⟩
    rw [hpb] at NP NQ lQ2 lK2
    try simp only [hpb]
    generalize (V4.alloc (.cells #[.int .i64 x, .int .i64 y, .int .i64 z] 27)).alloc (.cells #[.bool b1, .bool b2, .bool b3] 57) = V5 at *
    clear hz hpb
    obtain ⟨cNP0, cNP1, cNP2⟩ := NP.cells
    obtain ⟨cP0, cP1, cP2, cP3, cP4, cP5, cP6, cP7, cP8, cP9, cP10, cP11, cP12, cP13, cP14⟩ := P.cells
    obtain ⟨tP0, tP1, tP2, tP3, tP4, tP5, tP6, tP7, tP8, tP9, tP10, tP11, tP12, tP13, tP14⟩ := P.thaw
    go_upto_region 14 with fail
    clear cNP0 cNP1 cNP2 cP0 cP1 cP2 cP3 cP4 cP5 cP6 cP7 cP8 cP9 cP10 cP11 cP12 cP13 cP14 tP0 tP1 tP2 tP3 tP4 tP5 tP6 tP7 tP8 tP9 tP10 tP11 tP12 tP13 tP14
    replace O := O.fr (fr3 _ (mb + 1) 1 2 3 (.int .i64 x) (.int .i64 y) (.int .i64 z)) (show ¬ (mb = mb + 1) by omega)
    replace P := P.pos x y z
    replace C := C.fr (fr3 _ (mb + 1) 1 2 3 (.int .i64 x) (.int .i64 y) (.int .i64 z)) (show ¬ (mb + 1 + 1 = mb + 1) by omega)
    replace Q := Q.fr (fr3 _ (mb + 1) 1 2 3 (.int .i64 x) (.int .i64 y) (.int .i64 z)) (show ¬ (mb + 1 + 1 + 1 = mb + 1) by omega)
    replace K := K.fr (fr3 _ (mb + 1) 1 2 3 (.int .i64 x) (.int .i64 y) (.int .i64 z)) (show ¬ (kb = mb + 1) by omega)
    replace NP := NP.fr (fr3 _ (mb + 1) 1 2 3 (.int .i64 x) (.int .i64 y) (.int .i64 z)) (show ¬ (pb = mb + 1) by omega)
    replace NQ := NQ.fr (fr3 _ (mb + 1) 1 2 3 (.int .i64 x) (.int .i64 y) (.int .i64 z)) (show ¬ (pb + 1 = mb + 1) by omega)
    replace HB := below_fr HB (fr3 _ (mb + 1) 1 2 3 (.int .i64 x) (.int .i64 y) (.int .i64 z)) (Nat.le_refl _) (by intro k hk; replace hk : k = mb + 1 := hk; omega)
    generalize ((V5.setCell ⟨mb + 1, 1, none⟩ (.int .i64 x)).setCell ⟨mb + 1, 2, none⟩ (.int .i64 y)).setCell ⟨mb + 1, 3, none⟩ (.int .i64 z) = V6 at *
    obtain ⟨gg, hgg⟩ : ∃ g, (b3 && decide (z1 < 0)) = g := ⟨_, rfl⟩
    go_cut [90] from 81 to 88 (fun _ wx => wx = V6.setCell ⟨mb + 1, 7, none⟩ (.bool gg))
    case first =>
      obtain ⟨cNQ0, cNQ1, cNQ2⟩ := NQ.cells
      obtain ⟨cK0, cK1, cK2⟩ := K.cells
      obtain ⟨cP0, cP1, cP2, cP3, cP4, cP5, cP6, cP7, cP8, cP9, cP10, cP11, cP12, cP13, cP14⟩ := P.cells
      obtain ⟨tP0, tP1, tP2, tP3, tP4, tP5, tP6, tP7, tP8, tP9, tP10, tP11, tP12, tP13, tP14⟩ := P.thaw
      clear O P C Q K NP NQ HB HQ HSL
      cases b3 with
      | false =>
        replace hgg : false = gg := hgg
        subst hgg
        go_wp2
        go_meet
        exact rfl
      | true =>
        replace hgg : decide (z1 < 0) = gg := hgg
        subst hgg
        go_wp2
        go_meet
        exact rfl
    case rest =>
    replace hcut := hcut.symm
    subst hcut
    replace O := O.fr (fr1 _ (mb + 1) 7 (.bool gg)) (show ¬ (mb = mb + 1) by omega)
    replace P := P.s7 gg
    replace C := C.fr (fr1 _ (mb + 1) 7 (.bool gg)) (show ¬ (mb + 1 + 1 = mb + 1) by omega)
    replace Q := Q.fr (fr1 _ (mb + 1) 7 (.bool gg)) (show ¬ (mb + 1 + 1 + 1 = mb + 1) by omega)
    replace K := K.fr (fr1 _ (mb + 1) 7 (.bool gg)) (show ¬ (kb = mb + 1) by omega)
    replace NP := NP.fr (fr1 _ (mb + 1) 7 (.bool gg)) (show ¬ (pb = mb + 1) by omega)
    replace NQ := NQ.fr (fr1 _ (mb + 1) 7 (.bool gg)) (show ¬ (pb + 1 = mb + 1) by omega)
    replace HB := below_fr HB (fr1 _ (mb + 1) 7 (.bool gg)) (Nat.le_refl _) (by intro k hk; replace hk : k = mb + 1 := hk; omega)
    generalize V6.setCell ⟨mb + 1, 7, none⟩ (.bool gg) = V7 at *
    have HGG := hid hgg
    clear hgg HSL
    obtain ⟨x2, hx2⟩ : ∃ n, hlt b1 x1 = n := ⟨_, rfl⟩
    replace hx2 := hid hx2
    obtain ⟨cNQ0, cNQ1, cNQ2⟩ := NQ.cells
    go_upto_if 90 with fail
    clear cNQ0 cNQ1 cNQ2
    go_cut [7] from 91 to 91 (fun _ wx => ∃ V : World, wx = V ∧ PlAt V (mb + 1) { p with px := x, py := y, pz := z, gr := gg } ∧ PlAt V (mb + 1 + 1 + 1) noPl ∧ O3 V (pb + 1) 57 (.bool b1) (.bool b2) (.bool b3) ∧ O3 V kb 27 (.int .i64 x2) (.int .i64 y1) (.int .i64 z1) ∧ Below w.heap.size w V)
    case first =>
      cases b1 with
      | false =>
        replace hx2 : x1 = x2 := hx2.out
        subst hx2
        go_wp2
        go_meet
        exact ⟨_, rfl, P, Q, NQ, K, HB⟩
      | true =>
        replace hx2 : 0 = x2 := hx2.out
        subst hx2
        obtain ⟨cK0, cK1, cK2⟩ := K.cells
        obtain ⟨tK0, tK1, tK2⟩ := K.thaw
        go_wp2
        go_meet
        clear cK0 cK1 cK2 tK0 tK1 tK2
        replace P := P.fr (fr1 _ kb 0 (.int .i64 0)) (show ¬ (mb + 1 = kb) by omega)
        replace Q := Q.fr (fr1 _ kb 0 (.int .i64 0)) (show ¬ (mb + 1 + 1 + 1 = kb) by omega)
        replace NQ := NQ.fr (fr1 _ kb 0 (.int .i64 0)) (show ¬ (pb + 1 = kb) by omega)
        replace K := K.set0 (.int .i64 0)
        replace HB := below_fr HB (fr1 _ kb 0 (.int .i64 0)) (Nat.le_refl _) (by intro k hk; replace hk : k = kb := hk; omega)
        exact ⟨_, rfl, P, Q, NQ, K, HB⟩
    case rest =>
    clear O C NP P Q NQ K HB
    obtain ⟨V8, eU, P, Q, NQ, K, HB⟩ := hcut
    replace eU := eU.symm
    subst eU
    obtain ⟨y2, hy2⟩ : ∃ n, hlt b2 y1 = n := ⟨_, rfl⟩
    replace hy2 := hid hy2
    obtain ⟨cNQ0, cNQ1, cNQ2⟩ := NQ.cells
    go_upto_if 93 with fail
    clear cNQ0 cNQ1 cNQ2
    go_cut [7] from 94 to 94 (fun _ wx => ∃ V : World, wx = V ∧ PlAt V (mb + 1) { p with px := x, py := y, pz := z, gr := gg } ∧ PlAt V (mb + 1 + 1 + 1) noPl ∧ O3 V (pb + 1) 57 (.bool b1) (.bool b2) (.bool b3) ∧ O3 V kb 27 (.int .i64 x2) (.int .i64 y2) (.int .i64 z1) ∧ Below w.heap.size w V)
    case first =>
      cases b2 with
      | false =>
        replace hy2 : y1 = y2 := hy2.out
        subst hy2
        go_wp2
        go_meet
        exact ⟨_, rfl, P, Q, NQ, K, HB⟩
      | true =>
        replace hy2 : 0 = y2 := hy2.out
        subst hy2
        obtain ⟨cK0, cK1, cK2⟩ := K.cells
        obtain ⟨tK0, tK1, tK2⟩ := K.thaw
        go_wp2
        go_meet
        clear cK0 cK1 cK2 tK0 tK1 tK2
        replace P := P.fr (fr1 _ kb 1 (.int .i64 0)) (show ¬ (mb + 1 = kb) by omega)
        replace Q := Q.fr (fr1 _ kb 1 (.int .i64 0)) (show ¬ (mb + 1 + 1 + 1 = kb) by omega)
        replace NQ := NQ.fr (fr1 _ kb 1 (.int .i64 0)) (show ¬ (pb + 1 = kb) by omega)
        replace K := K.set1 (.int .i64 0)
        replace HB := below_fr HB (fr1 _ kb 1 (.int .i64 0)) (Nat.le_refl _) (by intro k hk; replace hk : k = kb := hk; omega)
        exact ⟨_, rfl, P, Q, NQ, K, HB⟩
    case rest =>
    clear P Q NQ K HB
    obtain ⟨V9, eU, P, Q, NQ, K, HB⟩ := hcut
    replace eU := eU.symm
    subst eU
    obtain ⟨z2, hz2⟩ : ∃ n, hlt b3 z1 = n := ⟨_, rfl⟩
    replace hz2 := hid hz2
    obtain ⟨cNQ0, cNQ1, cNQ2⟩ := NQ.cells
    go_upto_if 96 with fail
    clear cNQ0 cNQ1 cNQ2
    go_cut [7] from 97 to 97 (fun _ wx => ∃ V : World, wx = V ∧ PlAt V (mb + 1) { p with px := x, py := y, pz := z, gr := gg } ∧ PlAt V (mb + 1 + 1 + 1) noPl ∧ O3 V (pb + 1) 57 (.bool b1) (.bool b2) (.bool b3) ∧ O3 V kb 27 (.int .i64 x2) (.int .i64 y2) (.int .i64 z2) ∧ Below w.heap.size w V)
    case first =>
      cases b3 with
      | false =>
        replace hz2 : z1 = z2 := hz2.out
        subst hz2
        go_wp2
        go_meet
        exact ⟨_, rfl, P, Q, NQ, K, HB⟩
      | true =>
        replace hz2 : 0 = z2 := hz2.out
        subst hz2
        obtain ⟨cK0, cK1, cK2⟩ := K.cells
        obtain ⟨tK0, tK1, tK2⟩ := K.thaw
        go_wp2
        go_meet
        clear cK0 cK1 cK2 tK0 tK1 tK2
        replace P := P.fr (fr1 _ kb 2 (.int .i64 0)) (show ¬ (mb + 1 = kb) by omega)
        replace Q := Q.fr (fr1 _ kb 2 (.int .i64 0)) (show ¬ (mb + 1 + 1 + 1 = kb) by omega)
        replace NQ := NQ.fr (fr1 _ kb 2 (.int .i64 0)) (show ¬ (pb + 1 = kb) by omega)
        replace K := K.set2 (.int .i64 0)
        replace HB := below_fr HB (fr1 _ kb 2 (.int .i64 0)) (Nat.le_refl _) (by intro k hk; replace hk : k = kb := hk; omega)
        exact ⟨_, rfl, P, Q, NQ, K, HB⟩
    case rest =>
    clear P Q NQ K HB
    obtain ⟨V10, eU, P, Q, NQ, K, HB⟩ := hcut
    replace eU := eU.symm
    subst eU
    obtain ⟨cK0, cK1, cK2⟩ := K.cells
    obtain ⟨cP0, cP1, cP2, cP3, cP4, cP5, cP6, cP7, cP8, cP9, cP10, cP11, cP12, cP13, cP14⟩ := P.cells
    obtain ⟨tP0, tP1, tP2, tP3, tP4, tP5, tP6, tP7, tP8, tP9, tP10, tP11, tP12, tP13, tP14⟩ := P.thaw
    go_upto_region 22 with fail
    clear cK0 cK1 cK2 cP0 cP1 cP2 cP3 cP4 cP5 cP6 cP7 cP8 cP9 cP10 cP11 cP12 cP13 cP14 tP0 tP1 tP2 tP3 tP4 tP5 tP6 tP7 tP8 tP9 tP10 tP11 tP12 tP13 tP14
    replace P := P.vel x2 y2 z2
    replace Q := Q.fr (fr3 _ (mb + 1) 4 5 6 (.int .i64 x2) (.int .i64 y2) (.int .i64 z2)) (show ¬ (mb + 1 + 1 + 1 = mb + 1) by omega)
    replace NQ := NQ.fr (fr3 _ (mb + 1) 4 5 6 (.int .i64 x2) (.int .i64 y2) (.int .i64 z2)) (show ¬ (pb + 1 = mb + 1) by omega)
    replace K := K.fr (fr3 _ (mb + 1) 4 5 6 (.int .i64 x2) (.int .i64 y2) (.int .i64 z2)) (show ¬ (kb = mb + 1) by omega)
    replace HB := below_fr HB (fr3 _ (mb + 1) 4 5 6 (.int .i64 x2) (.int .i64 y2) (.int .i64 z2)) (Nat.le_refl _) (by intro k hk; replace hk : k = mb + 1 := hk; omega)
    generalize ((V10.setCell ⟨mb + 1, 4, none⟩ (.int .i64 x2)).setCell ⟨mb + 1, 5, none⟩ (.int .i64 y2)).setCell ⟨mb + 1, 6, none⟩ (.int .i64 z2) = V11 at *
    have eq : ({ p with px := x, py := y, pz := z, vx := x2, vy := y2, vz := z2, gr := gg } : Pl) = q := by rw [← HQ.out, ← hx2.out, ← hy2.out, ← hz2.out, ← HGG.out]; rfl
    replace P : PlAt V11 (mb + 1) q := by rw [← eq]; exact P
    clear eq
    obtain ⟨cP0, cP1, cP2, cP3, cP4, cP5, cP6, cP7, cP8, cP9, cP10, cP11, cP12, cP13, cP14⟩ := P.cells
    obtain ⟨cQ0, cQ1, cQ2, cQ3, cQ4, cQ5, cQ6, cQ7, cQ8, cQ9, cQ10, cQ11, cQ12, cQ13, cQ14⟩ := Q.cells
    obtain ⟨tQ0, tQ1, tQ2, tQ3, tQ4, tQ5, tQ6, tQ7, tQ8, tQ9, tQ10, tQ11, tQ12, tQ13, tQ14⟩ := Q.thaw
    go_wp2
    clear cP0 cP1 cP2 cP3 cP4 cP5 cP6 cP7 cP8 cP9 cP10 cP11 cP12 cP13 cP14 cQ0 cQ1 cQ2 cQ3 cQ4 cQ5 cQ6 cQ7 cQ8 cQ9 cQ10 cQ11 cQ12 cQ13 cQ14 tQ0 tQ1 tQ2 tQ3 tQ4 tQ5 tQ6 tQ7 tQ8 tQ9 tQ10 tQ11 tQ12 tQ13 tQ14
    replace HB := below_fr HB (PlAt.allFr _ (mb + 1 + 1 + 1) q) (Nat.le_refl _) (by intro k hk; replace hk : k = mb + 1 + 1 + 1 := hk; omega)
    replace Q := Q.all q
    refine bodyPost_ret (v := .agg #[.int .i64 q.id, .int .i64 q.px, .int .i64 q.py, .int .i64 q.pz, .int .i64 q.vx, .int .i64 q.vy, .int .i64 q.vz, .bool q.gr, .int .i64 q.he, .int .i64 q.ar, .int .i64 q.sc, .int .i64 q.a0, .int .i64 q.a1, .int .i64 q.wa, .int .i64 q.de]) ?_ rfl ⟨rfl, HB⟩
    obtain ⟨cQ0, cQ1, cQ2, cQ3, cQ4, cQ5, cQ6, cQ7, cQ8, cQ9, cQ10, cQ11, cQ12, cQ13, cQ14⟩ := Q.cells
    simp [results, Try.results14, go_sem, cQ0, cQ1, cQ2, cQ3, cQ4, cQ5, cQ6, cQ7, cQ8, cQ9, cQ10, cQ11, cQ12, cQ13, cQ14]
end Go.Proofs.Ytjjdclckkhddbaa
