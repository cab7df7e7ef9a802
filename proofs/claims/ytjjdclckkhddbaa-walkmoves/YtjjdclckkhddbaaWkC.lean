/- Layer 11 (walk): the contract of moved. -/
import Derived.Test.YtjjdclckkhddbaaWkA
namespace Go.Proofs.Ytjjdclckkhddbaa
open Go.RowKit
set_option linter.unusedVariables false
set_option linter.unusedSimpArgs false
attribute [local go_sem ↓] Go.wp_at_zero Go.wp_at_succ

inductive L3 (x y z x1 y1 z1 : Int) : Nat → Int → Int → Int → Prop
  | s0 : L3 x y z x1 y1 z1 0 x y z
  | s1 : L3 x y z x1 y1 z1 1 x1 y z
  | s2 : L3 x y z x1 y1 z1 2 x1 y1 z
  | s3 : L3 x y z x1 y1 z1 3 x1 y1 z1
theorem idx3b (a b c : Bool) : (∀ w, (Instr.index 57 (.agg #[.bool a, .bool b, .bool c]) (.int .i64 0)).run Try.prog w = .ok (.bool a) w) ∧ (∀ w, (Instr.index 57 (.agg #[.bool a, .bool b, .bool c]) (.int .i64 1)).run Try.prog w = .ok (.bool b) w) ∧ (∀ w, (Instr.index 57 (.agg #[.bool a, .bool b, .bool c]) (.int .i64 2)).run Try.prog w = .ok (.bool c) w) :=
  ⟨fun _ => by kernel_rfl, fun _ => by kernel_rfl, fun _ => by kernel_rfl⟩
set_option maxHeartbeats 4000000 in
theorem walkMoved (W D H : Int) (mp : Option Addr) (mn mc : Nat) (mf : Nat → Bool) (sp : Option Addr) (sn sc : Nat) (R : Int → Int → Int → Bool) (hR : ∀ x y z, R x y z = true ↔ (mpOf W D H mn mf).Room x y z) (p : Pl) (ix : I64 p.px) (iy : I64 p.py) (iz : I64 p.pz) (a b c : Int) (na : -32768 ≤ a ∧ a ≤ 32768) (nb : -32768 ≤ b ∧ b ≤ 32768) (nc : -32768 ≤ c ∧ c ≤ 32768) (q : Pl) (hq : mvdR R p a b c = q) (w : World) (hm : Arg w mp mn mc fun i => .bool (mf i)) :
    Calls Try.prog 27 #[.agg #[.int .i64 W, .int .i64 D, .int .i64 H, .slice mp mn mc, .slice sp sn sc], .agg #[.int .i64 p.id, .int .i64 p.px, .int .i64 p.py, .int .i64 p.pz, .int .i64 p.vx, .int .i64 p.vy, .int .i64 p.vz, .bool p.gr, .int .i64 p.he, .int .i64 p.ar, .int .i64 p.sc, .int .i64 p.a0, .int .i64 p.a1, .int .i64 p.wa, .int .i64 p.de], .agg #[.int .i64 a, .int .i64 b, .int .i64 c]] w fun e w' => e = .returned (.agg #[.int .i64 q.id, .int .i64 q.px, .int .i64 q.py, .int .i64 q.pz, .int .i64 q.vx, .int .i64 q.vy, .int .i64 q.vz, .bool q.gr, .int .i64 q.he, .int .i64 q.ar, .int .i64 q.sc, .int .i64 q.a0, .int .i64 q.a1, .int .i64 q.wa, .int .i64 q.de]) ∧ Below w.heap.size w w' := by
  obtain ⟨x, y, z, b1, b2, b3, hs, hqe⟩ := mvdR_slid R p a b c
  rw [hqe] at hq
  clear hqe
  have hs' : Slid R p.px p.py p.pz (fclamp a 32768) (fclamp b 32768) (fclamp c 32768) x y z b1 b2 b3 := by rw [cl_id na.1 na.2, cl_id nb.1 nb.2, cl_id nc.1 nc.2]; exact hs
  have HSL := hid (fun V (hV : Below w.heap.size w V) => traceSlide W D H mp mn mc mf sp sn sc R hR p.px p.py p.pz a b c ix iy iz (i64_near na) (i64_near nb) (i64_near nc) x y z b1 b2 b3 hs' V (hm.keep hV))
  have HQ := hid hq
  clear hs hs' hq hm hR ix iy iz na nb nc
  have O0 : O5 ((((w.alloc (.cells #[.int .i64 W, .int .i64 D, .int .i64 H, .slice mp mn mc, .slice sp sn sc] 25)).alloc (.cells #[.int .i64 p.id, .int .i64 p.px, .int .i64 p.py, .int .i64 p.pz, .int .i64 p.vx, .int .i64 p.vy, .int .i64 p.vz, .bool p.gr, .int .i64 p.he, .int .i64 p.ar, .int .i64 p.sc, .int .i64 p.a0, .int .i64 p.a1, .int .i64 p.wa, .int .i64 p.de] 30)).alloc (.cells #[.int .i64 a, .int .i64 b, .int .i64 c] 49)).alloc (.cells #[.int .i64 0, .int .i64 0, .int .i64 0, .int .i64 0, .int .i64 0, .int .i64 0, .int .i64 0, .bool false, .int .i64 0, .int .i64 0, .int .i64 0, .int .i64 0, .int .i64 0, .int .i64 0, .int .i64 0] 30)) w.heap.size (.int .i64 W) (.int .i64 D) (.int .i64 H) (.slice mp mn mc) (.slice sp sn sc) := (((O5.new _ _ _ _ _ _).alloc _).alloc _).alloc _
  have P0 : PlAt ((((w.alloc (.cells #[.int .i64 W, .int .i64 D, .int .i64 H, .slice mp mn mc, .slice sp sn sc] 25)).alloc (.cells #[.int .i64 p.id, .int .i64 p.px, .int .i64 p.py, .int .i64 p.pz, .int .i64 p.vx, .int .i64 p.vy, .int .i64 p.vz, .bool p.gr, .int .i64 p.he, .int .i64 p.ar, .int .i64 p.sc, .int .i64 p.a0, .int .i64 p.a1, .int .i64 p.wa, .int .i64 p.de] 30)).alloc (.cells #[.int .i64 a, .int .i64 b, .int .i64 c] 49)).alloc (.cells #[.int .i64 0, .int .i64 0, .int .i64 0, .int .i64 0, .int .i64 0, .int .i64 0, .int .i64 0, .bool false, .int .i64 0, .int .i64 0, .int .i64 0, .int .i64 0, .int .i64 0, .int .i64 0, .int .i64 0] 30)) (w.heap.size + 1) p := ((PlAt.new' _ _ (by simp)).alloc _).alloc _
  have A0 : O3 ((((w.alloc (.cells #[.int .i64 W, .int .i64 D, .int .i64 H, .slice mp mn mc, .slice sp sn sc] 25)).alloc (.cells #[.int .i64 p.id, .int .i64 p.px, .int .i64 p.py, .int .i64 p.pz, .int .i64 p.vx, .int .i64 p.vy, .int .i64 p.vz, .bool p.gr, .int .i64 p.he, .int .i64 p.ar, .int .i64 p.sc, .int .i64 p.a0, .int .i64 p.a1, .int .i64 p.wa, .int .i64 p.de] 30)).alloc (.cells #[.int .i64 a, .int .i64 b, .int .i64 c] 49)).alloc (.cells #[.int .i64 0, .int .i64 0, .int .i64 0, .int .i64 0, .int .i64 0, .int .i64 0, .int .i64 0, .bool false, .int .i64 0, .int .i64 0, .int .i64 0, .int .i64 0, .int .i64 0, .int .i64 0, .int .i64 0] 30)) (w.heap.size + 1 + 1) 49 (.int .i64 a) (.int .i64 b) (.int .i64 c) := (O3.new' _ _ _ _ _ (by simp)).alloc _
  have Q0 : PlAt ((((w.alloc (.cells #[.int .i64 W, .int .i64 D, .int .i64 H, .slice mp mn mc, .slice sp sn sc] 25)).alloc (.cells #[.int .i64 p.id, .int .i64 p.px, .int .i64 p.py, .int .i64 p.pz, .int .i64 p.vx, .int .i64 p.vy, .int .i64 p.vz, .bool p.gr, .int .i64 p.he, .int .i64 p.ar, .int .i64 p.sc, .int .i64 p.a0, .int .i64 p.a1, .int .i64 p.wa, .int .i64 p.de] 30)).alloc (.cells #[.int .i64 a, .int .i64 b, .int .i64 c] 49)).alloc (.cells #[.int .i64 0, .int .i64 0, .int .i64 0, .int .i64 0, .int .i64 0, .int .i64 0, .int .i64 0, .bool false, .int .i64 0, .int .i64 0, .int .i64 0, .int .i64 0, .int .i64 0, .int .i64 0, .int .i64 0] 30)) (w.heap.size + 1 + 1 + 1) noPl := PlAt.new' _ noPl (by simp)
  have HB : Below w.heap.size w ((((w.alloc (.cells #[.int .i64 W, .int .i64 D, .int .i64 H, .slice mp mn mc, .slice sp sn sc] 25)).alloc (.cells #[.int .i64 p.id, .int .i64 p.px, .int .i64 p.py, .int .i64 p.pz, .int .i64 p.vx, .int .i64 p.vy, .int .i64 p.vz, .bool p.gr, .int .i64 p.he, .int .i64 p.ar, .int .i64 p.sc, .int .i64 p.a0, .int .i64 p.a1, .int .i64 p.wa, .int .i64 p.de] 30)).alloc (.cells #[.int .i64 a, .int .i64 b, .int .i64 c] 49)).alloc (.cells #[.int .i64 0, .int .i64 0, .int .i64 0, .int .i64 0, .int .i64 0, .int .i64 0, .int .i64 0, .bool false, .int .i64 0, .int .i64 0, .int .i64 0, .int .i64 0, .int .i64 0, .int .i64 0, .int .i64 0] 30)) := ((((Below.refl _ _).alloc (Nat.le_refl _) _).alloc (by simp) _).alloc (by simp; omega) _).alloc (by simp; omega) _
  go_enter Try.func27, Try.ntmps27
  go_upto_region 1 with fail
  obtain ⟨mb, hmb⟩ : ∃ b, w.heap.size = b := ⟨_, rfl⟩
  have hwm : w.heap.size ≤ mb := by omega
  rw [hmb] at O0 P0 A0 Q0
  try simp only [hmb]
  generalize ((((w.alloc (.cells #[.int .i64 W, .int .i64 D, .int .i64 H, .slice mp mn mc, .slice sp sn sc] 25)).alloc (.cells #[.int .i64 p.id, .int .i64 p.px, .int .i64 p.py, .int .i64 p.pz, .int .i64 p.vx, .int .i64 p.vy, .int .i64 p.vz, .bool p.gr, .int .i64 p.he, .int .i64 p.ar, .int .i64 p.sc, .int .i64 p.a0, .int .i64 p.a1, .int .i64 p.wa, .int .i64 p.de] 30)).alloc (.cells #[.int .i64 a, .int .i64 b, .int .i64 c] 49)).alloc (.cells #[.int .i64 0, .int .i64 0, .int .i64 0, .int .i64 0, .int .i64 0, .int .i64 0, .int .i64 0, .bool false, .int .i64 0, .int .i64 0, .int .i64 0, .int .i64 0, .int .i64 0, .int .i64 0, .int .i64 0] 30)) = wr at *
  obtain ⟨m0, m1, m2, m3, m4⟩ := O0.cells
  obtain ⟨p0, p1, p2, p3, p4, p5, p6, p7, p8, p9, p10, p11, p12, p13, p14⟩ := P0.cells
  obtain ⟨a0, a1, a2⟩ := A0.cells
  have rm0 := stays m0; have rm1 := stays m1; have rm2 := stays m2; have rm3 := stays m3; have rm4 := stays m4
  have rp1 := stays p1; have rp2 := stays p2; have rp3 := stays p3
  have ra0 := stays a0; have ra1 := stays a1; have ra2 := stays a2
  clear m0 m1 m2 m3 m4 a0 a1 a2
  clear p0 p1 p2 p3 p4 p5 p6 p7 p8 p9 p10 p11 p12 p13 p14
  go_cut [7, 8] from 11 to 19 (fun c d wx => ∃ (pb qb : Nat) (V : World), c = .pointer (some ⟨pb, 0, none⟩) ∧ d = .pointer (some ⟨qb, 0, none⟩) ∧ wx = V ∧ O3 V pb 27 (.int .i64 x) (.int .i64 y) (.int .i64 z) ∧ O3 V qb 57 (.bool b1) (.bool b2) (.bool b3) ∧ Below wr.heap.size wr V ∧ wr.heap.size ≤ pb ∧ wr.heap.size ≤ qb)
  case first =>
    clear O0 P0 A0 Q0
    have D1 : Below wr.heap.size wr (wr.drewN 1) := below_drewN wr 1
    refine region_held (fun w' => Below wr.heap.size wr w') 13 rfl (by kernel_rfl) D1 ?_
    intro hHeld
    refine takeO 0 (some 12) (v := ?v1) rfl rfl (by kernel_rfl) (by kernel_rfl) (by kernel_rfl) (Or.inl ⟨by rfl, ?y1⟩) hHeld ?r1
    case y1 => (intro w' hSw; (try dsimp only at hSw); go_simp; try with_reducible rfl)
    try simp only [Act.put, List.setIfInBounds_toArray, List.set_cons_zero, List.set_cons_succ]
    refine takeO 1 (some 13) (v := ?v2) rfl rfl (by kernel_rfl) (by kernel_rfl) (by kernel_rfl) (Or.inl ⟨by rfl, ?y2⟩) hHeld ?r2
    case y2 => (intro w' hSw; (try dsimp only at hSw); go_simp; try with_reducible rfl)
    try simp only [Act.put, List.setIfInBounds_toArray, List.set_cons_zero, List.set_cons_succ]
    refine takeO 2 (some 14) (v := ?v3) rfl rfl (by kernel_rfl) (by kernel_rfl) (by kernel_rfl) (Or.inl ⟨by rfl, ?y3⟩) hHeld ?r3
    case y3 => (intro w' hSw; (try dsimp only at hSw); go_simp; try with_reducible rfl)
    try simp only [Act.put, List.setIfInBounds_toArray, List.set_cons_zero, List.set_cons_succ]
    refine takeO 3 (some 15) (v := ?v4) rfl rfl (by kernel_rfl) (by kernel_rfl) (by kernel_rfl) (Or.inl ⟨by rfl, ?y4⟩) hHeld ?r4
    case y4 => (intro w' hSw; (try dsimp only at hSw); go_simp; try with_reducible rfl)
    try simp only [Act.put, List.setIfInBounds_toArray, List.set_cons_zero, List.set_cons_succ]
    refine wpAnyH_ready (rs := [4, 9, 10]) (by kernel_rfl) (by simp) ?_
    refine AllReadyH.cons rfl (fun K hK => ?_) (AllReadyH.cons rfl (fun K hK => ?_) (AllReadyH.cons rfl (fun K hK => ?_) AllReadyH.nil))
    · skip
      go_simp
      refine (walkVec a b c _).mono ?_
      rintro e V1 ⟨rfl, bq⟩
      dsimp only
      have G1 : Below wr.heap.size wr V1 := Below.trans D1 bq
      refine hK.out _ _ G1 (fun hHeld => ?_)
      clear hK K bq
      refine wpAnyH_ready (rs := [5, 9, 10]) (by kernel_rfl) (by simp) ?_
      refine AllReadyH.cons rfl (fun K hK => ?_) (AllReadyH.cons rfl (fun K hK => ?_) (AllReadyH.cons rfl (fun K hK => ?_) AllReadyH.nil))
      · skip
        go_simp
        refine (HSL.out _ (btrans HB G1)).mono ?_
        rintro e V2 ⟨rfl, bq⟩
        dsimp only
        have G2 : Below wr.heap.size wr V2 := btrans G1 bq
        refine hK.out _ _ G2 (fun hHeld => ?_)
        clear hK K bq G1
        refine takeO 6 (some 11) (v := ?v5) rfl rfl (by kernel_rfl) (by kernel_rfl) (by kernel_rfl) (Or.inl ⟨by rfl, ?y5⟩) hHeld ?r5
        case y5 => (intro w' hSw; (try dsimp only at hSw); go_simp; try with_reducible rfl)
        try simp only [Act.put, List.setIfInBounds_toArray, List.set_cons_zero, List.set_cons_succ]
        refine takeO 7 (some 18) (v := ?v6) rfl rfl (by kernel_rfl) (by kernel_rfl) (by kernel_rfl) (Or.inl ⟨by rfl, ?y6⟩) hHeld ?r6
        case y6 => (intro w' hSw; (try dsimp only at hSw); go_simp; try with_reducible rfl)
        try simp only [Act.put, List.setIfInBounds_toArray, List.set_cons_zero, List.set_cons_succ]
        refine takeO 8 (some 19) (v := ?v7) rfl rfl (by kernel_rfl) (by kernel_rfl) (by kernel_rfl) (Or.inl ⟨by rfl, ?y7⟩) hHeld ?r7
        case y7 => (intro w' hSw; (try dsimp only at hSw); go_simp; try with_reducible rfl)
        try simp only [Act.put, List.setIfInBounds_toArray, List.set_cons_zero, List.set_cons_succ]
        refine wpAnyH_ready (rs := [9, 10]) (by kernel_rfl) (by simp) ?_
        refine AllReadyH.cons rfl (fun K hK => ?_) (AllReadyH.cons rfl (fun K hK => ?_) AllReadyH.nil)
        · skip
          go_simp
          have G3 : Below wr.heap.size wr (V2.alloc (.cells #[.int .i64 0, .int .i64 0, .int .i64 0] 27)) := G2.alloc G2.size _
          refine hK.out _ _ G3 (fun hHeld => ?_)
          clear hK K
          have NP := O3.new V2 27 (.int .i64 0) (.int .i64 0) (.int .i64 0)
          obtain ⟨pb, hb⟩ : ∃ b, V2.heap.size = b := ⟨_, rfl⟩
          have hRP : wr.heap.size ≤ pb := hb ▸ G2.size
          rw [hb] at NP
          try simp only [hb]
          obtain ⟨V3, hV⟩ : ∃ V, V2.alloc (.cells #[.int .i64 0, .int .i64 0, .int .i64 0] 27) = V := ⟨_, rfl⟩
          simp only [hV] at NP G3 hHeld ⊢
          clear hV hb G2
          refine wpAnyH_ready (rs := [10]) (by kernel_rfl) (by simp) ?_
          refine AllReadyH.cons rfl (fun K hK => ?_) AllReadyH.nil
          go_simp
          have G4 : Below wr.heap.size wr (V3.alloc (.cells #[.bool false, .bool false, .bool false] 57)) := G3.alloc G3.size _
          refine hK.out _ _ G4 (fun hHeld => ?_)
          clear hK K
          have NQ := O3.new V3 57 (.bool false) (.bool false) (.bool false)
          obtain ⟨qb, hb⟩ : ∃ b, V3.heap.size = b := ⟨_, rfl⟩
          have hRQ : wr.heap.size ≤ qb := hb ▸ G3.size
          have hltQ : pb < qb := hb ▸ NP.lt
          replace NP := NP.alloc (.cells #[.bool false, .bool false, .bool false] 57)
          rw [hb] at NQ
          try simp only [hb]
          obtain ⟨V4, hV⟩ : ∃ V, V3.alloc (.cells #[.bool false, .bool false, .bool false] 57) = V := ⟨_, rfl⟩
          simp only [hV] at NQ G4 hHeld ⊢; simp only [hV] at NP
          clear hV hb G3
          refine wpAnyH_ready (rs := [11]) (by kernel_rfl) (by simp) ?_
          refine AllReadyH.cons rfl (fun K hK => ?_) AllReadyH.nil
          obtain ⟨f0, f1, f2⟩ := NP.thaw
          obtain ⟨c0, c1, c2⟩ := NP.cells
          go_simp
          refine hK.out _ _ (below_set3 G4 hRP _ _ _) (fun hHeld => ?_)
          clear hK K f0 f1 f2 c0 c1 c2
          replace NP := NP.set (.int .i64 x) (.int .i64 y) (.int .i64 z)
          replace NQ := NQ.others (show qb ≠ pb by omega) (.int .i64 x) (.int .i64 y) (.int .i64 z)
          have G9 := below_set3 G4 hRP (.int .i64 x) (.int .i64 y) (.int .i64 z)
          obtain ⟨V9, hV9⟩ : ∃ V, (((V4.setCell ⟨pb, 0, none⟩ (.int .i64 x)).setCell ⟨pb, 1, none⟩ (.int .i64 y)).setCell ⟨pb, 2, none⟩ (.int .i64 z)) = V := ⟨_, rfl⟩
          simp only [hV9] at NP NQ G9 hHeld ⊢
          clear hV9
          refine wpAnyH_ready (rs := [12]) (by kernel_rfl) (by simp) ?_
          refine AllReadyH.cons rfl (fun K hK => ?_) AllReadyH.nil
          obtain ⟨f0, f1, f2⟩ := NQ.thaw
          obtain ⟨c0, c1, c2⟩ := NQ.cells
          go_simp
          refine hK.out _ _ (below_set3 G9 hRQ _ _ _) (fun hHeld => ?_)
          refine wpAnyH_done (by kernel_rfl) (Only.on ?_) _
          clear hK K hHeld
          go_wp2
          go_meet
          exact ⟨pb, qb, _, rfl, rfl, rfl, NP.others (show pb ≠ qb by omega) _ _ _, NQ.set _ _ _, below_set3 G9 hRQ _ _ _, hRP, hRQ⟩
        · skip
          go_simp
          have G3 : Below wr.heap.size wr (V2.alloc (.cells #[.bool false, .bool false, .bool false] 57)) := G2.alloc G2.size _
          refine hK.out _ _ G3 (fun hHeld => ?_)
          clear hK K
          have NQ := O3.new V2 57 (.bool false) (.bool false) (.bool false)
          obtain ⟨qb, hb⟩ : ∃ b, V2.heap.size = b := ⟨_, rfl⟩
          have hRQ : wr.heap.size ≤ qb := hb ▸ G2.size
          rw [hb] at NQ
          try simp only [hb]
          obtain ⟨V3, hV⟩ : ∃ V, V2.alloc (.cells #[.bool false, .bool false, .bool false] 57) = V := ⟨_, rfl⟩
          simp only [hV] at NQ G3 hHeld ⊢
          clear hV hb G2
          refine wpAnyH_ready (rs := [9]) (by kernel_rfl) (by simp) ?_
          refine AllReadyH.cons rfl (fun K hK => ?_) AllReadyH.nil
          go_simp
          have G4 : Below wr.heap.size wr (V3.alloc (.cells #[.int .i64 0, .int .i64 0, .int .i64 0] 27)) := G3.alloc G3.size _
          refine hK.out _ _ G4 (fun hHeld => ?_)
          clear hK K
          have NP := O3.new V3 27 (.int .i64 0) (.int .i64 0) (.int .i64 0)
          obtain ⟨pb, hb⟩ : ∃ b, V3.heap.size = b := ⟨_, rfl⟩
          have hRP : wr.heap.size ≤ pb := hb ▸ G3.size
          have hltP : qb < pb := hb ▸ NQ.lt
          replace NQ := NQ.alloc (.cells #[.int .i64 0, .int .i64 0, .int .i64 0] 27)
          rw [hb] at NP
          try simp only [hb]
          obtain ⟨V4, hV⟩ : ∃ V, V3.alloc (.cells #[.int .i64 0, .int .i64 0, .int .i64 0] 27) = V := ⟨_, rfl⟩
          simp only [hV] at NP G4 hHeld ⊢; simp only [hV] at NQ
          clear hV hb G3
          refine wpAnyH_ready (rs := [11]) (by kernel_rfl) (by simp) ?_
          refine AllReadyH.cons rfl (fun K hK => ?_) AllReadyH.nil
          obtain ⟨f0, f1, f2⟩ := NP.thaw
          obtain ⟨c0, c1, c2⟩ := NP.cells
          go_simp
          refine hK.out _ _ (below_set3 G4 hRP _ _ _) (fun hHeld => ?_)
          clear hK K f0 f1 f2 c0 c1 c2
          replace NP := NP.set (.int .i64 x) (.int .i64 y) (.int .i64 z)
          replace NQ := NQ.others (show qb ≠ pb by omega) (.int .i64 x) (.int .i64 y) (.int .i64 z)
          have G9 := below_set3 G4 hRP (.int .i64 x) (.int .i64 y) (.int .i64 z)
          obtain ⟨V9, hV9⟩ : ∃ V, (((V4.setCell ⟨pb, 0, none⟩ (.int .i64 x)).setCell ⟨pb, 1, none⟩ (.int .i64 y)).setCell ⟨pb, 2, none⟩ (.int .i64 z)) = V := ⟨_, rfl⟩
          simp only [hV9] at NP NQ G9 hHeld ⊢
          clear hV9
          refine wpAnyH_ready (rs := [12]) (by kernel_rfl) (by simp) ?_
          refine AllReadyH.cons rfl (fun K hK => ?_) AllReadyH.nil
          obtain ⟨f0, f1, f2⟩ := NQ.thaw
          obtain ⟨c0, c1, c2⟩ := NQ.cells
          go_simp
          refine hK.out _ _ (below_set3 G9 hRQ _ _ _) (fun hHeld => ?_)
          refine wpAnyH_done (by kernel_rfl) (Only.on ?_) _
          clear hK K hHeld
          go_wp2
          go_meet
          exact ⟨pb, qb, _, rfl, rfl, rfl, NP.others (show pb ≠ qb by omega) _ _ _, NQ.set _ _ _, below_set3 G9 hRQ _ _ _, hRP, hRQ⟩
      · skip
        go_simp
        have G2 : Below wr.heap.size wr (V1.alloc (.cells #[.int .i64 0, .int .i64 0, .int .i64 0] 27)) := G1.alloc G1.size _
        refine hK.out _ _ G2 (fun hHeld => ?_)
        clear hK K
        have NP := O3.new V1 27 (.int .i64 0) (.int .i64 0) (.int .i64 0)
        obtain ⟨pb, hb⟩ : ∃ b, V1.heap.size = b := ⟨_, rfl⟩
        have hRP : wr.heap.size ≤ pb := hb ▸ G1.size
        rw [hb] at NP
        try simp only [hb]
        obtain ⟨V2, hV⟩ : ∃ V, V1.alloc (.cells #[.int .i64 0, .int .i64 0, .int .i64 0] 27) = V := ⟨_, rfl⟩
        simp only [hV] at NP G2 hHeld ⊢
        clear hV hb G1
        refine wpAnyH_ready (rs := [5, 10]) (by kernel_rfl) (by simp) ?_
        refine AllReadyH.cons rfl (fun K hK => ?_) (AllReadyH.cons rfl (fun K hK => ?_) AllReadyH.nil)
        · skip
          go_simp
          refine (HSL.out _ (btrans HB G2)).mono ?_
          rintro e V3 ⟨rfl, bq⟩
          dsimp only
          have G3 : Below wr.heap.size wr V3 := btrans G2 bq
          refine hK.out _ _ G3 (fun hHeld => ?_)
          replace NP := NP.keep bq
          clear hK K bq G2
          refine takeO 6 (some 11) (v := ?v8) rfl rfl (by kernel_rfl) (by kernel_rfl) (by kernel_rfl) (Or.inl ⟨by rfl, ?y8⟩) hHeld ?r8
          case y8 => (intro w' hSw; (try dsimp only at hSw); go_simp; try with_reducible rfl)
          try simp only [Act.put, List.setIfInBounds_toArray, List.set_cons_zero, List.set_cons_succ]
          refine takeO 7 (some 18) (v := ?v9) rfl rfl (by kernel_rfl) (by kernel_rfl) (by kernel_rfl) (Or.inl ⟨by rfl, ?y9⟩) hHeld ?r9
          case y9 => (intro w' hSw; (try dsimp only at hSw); go_simp; try with_reducible rfl)
          try simp only [Act.put, List.setIfInBounds_toArray, List.set_cons_zero, List.set_cons_succ]
          refine takeO 8 (some 19) (v := ?v10) rfl rfl (by kernel_rfl) (by kernel_rfl) (by kernel_rfl) (Or.inl ⟨by rfl, ?y10⟩) hHeld ?r10
          case y10 => (intro w' hSw; (try dsimp only at hSw); go_simp; try with_reducible rfl)
          try simp only [Act.put, List.setIfInBounds_toArray, List.set_cons_zero, List.set_cons_succ]
          refine wpAnyH_ready (rs := [10]) (by kernel_rfl) (by simp) ?_
          refine AllReadyH.cons rfl (fun K hK => ?_) AllReadyH.nil
          go_simp
          have G4 : Below wr.heap.size wr (V3.alloc (.cells #[.bool false, .bool false, .bool false] 57)) := G3.alloc G3.size _
          refine hK.out _ _ G4 (fun hHeld => ?_)
          clear hK K
          have NQ := O3.new V3 57 (.bool false) (.bool false) (.bool false)
          obtain ⟨qb, hb⟩ : ∃ b, V3.heap.size = b := ⟨_, rfl⟩
          have hRQ : wr.heap.size ≤ qb := hb ▸ G3.size
          have hltQ : pb < qb := hb ▸ NP.lt
          replace NP := NP.alloc (.cells #[.bool false, .bool false, .bool false] 57)
          rw [hb] at NQ
          try simp only [hb]
          obtain ⟨V4, hV⟩ : ∃ V, V3.alloc (.cells #[.bool false, .bool false, .bool false] 57) = V := ⟨_, rfl⟩
          simp only [hV] at NQ G4 hHeld ⊢; simp only [hV] at NP
          clear hV hb G3
          refine wpAnyH_ready (rs := [11]) (by kernel_rfl) (by simp) ?_
          refine AllReadyH.cons rfl (fun K hK => ?_) AllReadyH.nil
          obtain ⟨f0, f1, f2⟩ := NP.thaw
          obtain ⟨c0, c1, c2⟩ := NP.cells
          go_simp
          refine hK.out _ _ (below_set3 G4 hRP _ _ _) (fun hHeld => ?_)
          clear hK K f0 f1 f2 c0 c1 c2
          replace NP := NP.set (.int .i64 x) (.int .i64 y) (.int .i64 z)
          replace NQ := NQ.others (show qb ≠ pb by omega) (.int .i64 x) (.int .i64 y) (.int .i64 z)
          have G9 := below_set3 G4 hRP (.int .i64 x) (.int .i64 y) (.int .i64 z)
          obtain ⟨V9, hV9⟩ : ∃ V, (((V4.setCell ⟨pb, 0, none⟩ (.int .i64 x)).setCell ⟨pb, 1, none⟩ (.int .i64 y)).setCell ⟨pb, 2, none⟩ (.int .i64 z)) = V := ⟨_, rfl⟩
          simp only [hV9] at NP NQ G9 hHeld ⊢
          clear hV9
          refine wpAnyH_ready (rs := [12]) (by kernel_rfl) (by simp) ?_
          refine AllReadyH.cons rfl (fun K hK => ?_) AllReadyH.nil
          obtain ⟨f0, f1, f2⟩ := NQ.thaw
          obtain ⟨c0, c1, c2⟩ := NQ.cells
          go_simp
          refine hK.out _ _ (below_set3 G9 hRQ _ _ _) (fun hHeld => ?_)
          refine wpAnyH_done (by kernel_rfl) (Only.on ?_) _
          clear hK K hHeld
          go_wp2
          go_meet
          exact ⟨pb, qb, _, rfl, rfl, rfl, NP.others (show pb ≠ qb by omega) _ _ _, NQ.set _ _ _, below_set3 G9 hRQ _ _ _, hRP, hRQ⟩
        · skip
          go_simp
          have G3 : Below wr.heap.size wr (V2.alloc (.cells #[.bool false, .bool false, .bool false] 57)) := G2.alloc G2.size _
          refine hK.out _ _ G3 (fun hHeld => ?_)
          clear hK K
          have NQ := O3.new V2 57 (.bool false) (.bool false) (.bool false)
          obtain ⟨qb, hb⟩ : ∃ b, V2.heap.size = b := ⟨_, rfl⟩
          have hRQ : wr.heap.size ≤ qb := hb ▸ G2.size
          have hltQ : pb < qb := hb ▸ NP.lt
          replace NP := NP.alloc (.cells #[.bool false, .bool false, .bool false] 57)
          rw [hb] at NQ
          try simp only [hb]
          obtain ⟨V3, hV⟩ : ∃ V, V2.alloc (.cells #[.bool false, .bool false, .bool false] 57) = V := ⟨_, rfl⟩
          simp only [hV] at NQ G3 hHeld ⊢; simp only [hV] at NP
          clear hV hb G2
          refine wpAnyH_ready (rs := [5]) (by kernel_rfl) (by simp) ?_
          refine AllReadyH.cons rfl (fun K hK => ?_) AllReadyH.nil
          go_simp
          refine (HSL.out _ (btrans HB G3)).mono ?_
          rintro e V4 ⟨rfl, bq⟩
          dsimp only
          have G4 : Below wr.heap.size wr V4 := btrans G3 bq
          refine hK.out _ _ G4 (fun hHeld => ?_)
          replace NP := NP.keep bq
          replace NQ := NQ.keep bq
          clear hK K bq G3
          refine takeO 6 (some 11) (v := ?v11) rfl rfl (by kernel_rfl) (by kernel_rfl) (by kernel_rfl) (Or.inl ⟨by rfl, ?y11⟩) hHeld ?r11
          case y11 => (intro w' hSw; (try dsimp only at hSw); go_simp; try with_reducible rfl)
          try simp only [Act.put, List.setIfInBounds_toArray, List.set_cons_zero, List.set_cons_succ]
          refine takeO 7 (some 18) (v := ?v12) rfl rfl (by kernel_rfl) (by kernel_rfl) (by kernel_rfl) (Or.inl ⟨by rfl, ?y12⟩) hHeld ?r12
          case y12 => (intro w' hSw; (try dsimp only at hSw); go_simp; try with_reducible rfl)
          try simp only [Act.put, List.setIfInBounds_toArray, List.set_cons_zero, List.set_cons_succ]
          refine takeO 8 (some 19) (v := ?v13) rfl rfl (by kernel_rfl) (by kernel_rfl) (by kernel_rfl) (Or.inl ⟨by rfl, ?y13⟩) hHeld ?r13
          case y13 => (intro w' hSw; (try dsimp only at hSw); go_simp; try with_reducible rfl)
          try simp only [Act.put, List.setIfInBounds_toArray, List.set_cons_zero, List.set_cons_succ]
          refine wpAnyH_ready (rs := [11]) (by kernel_rfl) (by simp) ?_
          refine AllReadyH.cons rfl (fun K hK => ?_) AllReadyH.nil
          obtain ⟨f0, f1, f2⟩ := NP.thaw
          obtain ⟨c0, c1, c2⟩ := NP.cells
          go_simp
          refine hK.out _ _ (below_set3 G4 hRP _ _ _) (fun hHeld => ?_)
          clear hK K f0 f1 f2 c0 c1 c2
          replace NP := NP.set (.int .i64 x) (.int .i64 y) (.int .i64 z)
          replace NQ := NQ.others (show qb ≠ pb by omega) (.int .i64 x) (.int .i64 y) (.int .i64 z)
          have G9 := below_set3 G4 hRP (.int .i64 x) (.int .i64 y) (.int .i64 z)
          obtain ⟨V9, hV9⟩ : ∃ V, (((V4.setCell ⟨pb, 0, none⟩ (.int .i64 x)).setCell ⟨pb, 1, none⟩ (.int .i64 y)).setCell ⟨pb, 2, none⟩ (.int .i64 z)) = V := ⟨_, rfl⟩
          simp only [hV9] at NP NQ G9 hHeld ⊢
          clear hV9
          refine wpAnyH_ready (rs := [12]) (by kernel_rfl) (by simp) ?_
          refine AllReadyH.cons rfl (fun K hK => ?_) AllReadyH.nil
          obtain ⟨f0, f1, f2⟩ := NQ.thaw
          obtain ⟨c0, c1, c2⟩ := NQ.cells
          go_simp
          refine hK.out _ _ (below_set3 G9 hRQ _ _ _) (fun hHeld => ?_)
          refine wpAnyH_done (by kernel_rfl) (Only.on ?_) _
          clear hK K hHeld
          go_wp2
          go_meet
          exact ⟨pb, qb, _, rfl, rfl, rfl, NP.others (show pb ≠ qb by omega) _ _ _, NQ.set _ _ _, below_set3 G9 hRQ _ _ _, hRP, hRQ⟩
      · skip
        go_simp
        have G2 : Below wr.heap.size wr (V1.alloc (.cells #[.bool false, .bool false, .bool false] 57)) := G1.alloc G1.size _
        refine hK.out _ _ G2 (fun hHeld => ?_)
        clear hK K
        have NQ := O3.new V1 57 (.bool false) (.bool false) (.bool false)
        obtain ⟨qb, hb⟩ : ∃ b, V1.heap.size = b := ⟨_, rfl⟩
        have hRQ : wr.heap.size ≤ qb := hb ▸ G1.size
        rw [hb] at NQ
        try simp only [hb]
        obtain ⟨V2, hV⟩ : ∃ V, V1.alloc (.cells #[.bool false, .bool false, .bool false] 57) = V := ⟨_, rfl⟩
        simp only [hV] at NQ G2 hHeld ⊢
        clear hV hb G1
        refine wpAnyH_ready (rs := [5, 9]) (by kernel_rfl) (by simp) ?_
        refine AllReadyH.cons rfl (fun K hK => ?_) (AllReadyH.cons rfl (fun K hK => ?_) AllReadyH.nil)
        · skip
          go_simp
          refine (HSL.out _ (btrans HB G2)).mono ?_
          rintro e V3 ⟨rfl, bq⟩
          dsimp only
          have G3 : Below wr.heap.size wr V3 := btrans G2 bq
          refine hK.out _ _ G3 (fun hHeld => ?_)
          replace NQ := NQ.keep bq
          clear hK K bq G2
          refine takeO 6 (some 11) (v := ?v14) rfl rfl (by kernel_rfl) (by kernel_rfl) (by kernel_rfl) (Or.inl ⟨by rfl, ?y14⟩) hHeld ?r14
          case y14 => (intro w' hSw; (try dsimp only at hSw); go_simp; try with_reducible rfl)
          try simp only [Act.put, List.setIfInBounds_toArray, List.set_cons_zero, List.set_cons_succ]
          refine takeO 7 (some 18) (v := ?v15) rfl rfl (by kernel_rfl) (by kernel_rfl) (by kernel_rfl) (Or.inl ⟨by rfl, ?y15⟩) hHeld ?r15
          case y15 => (intro w' hSw; (try dsimp only at hSw); go_simp; try with_reducible rfl)
          try simp only [Act.put, List.setIfInBounds_toArray, List.set_cons_zero, List.set_cons_succ]
          refine takeO 8 (some 19) (v := ?v16) rfl rfl (by kernel_rfl) (by kernel_rfl) (by kernel_rfl) (Or.inl ⟨by rfl, ?y16⟩) hHeld ?r16
          case y16 => (intro w' hSw; (try dsimp only at hSw); go_simp; try with_reducible rfl)
          try simp only [Act.put, List.setIfInBounds_toArray, List.set_cons_zero, List.set_cons_succ]
          refine wpAnyH_ready (rs := [9]) (by kernel_rfl) (by simp) ?_
          refine AllReadyH.cons rfl (fun K hK => ?_) AllReadyH.nil
          go_simp
          have G4 : Below wr.heap.size wr (V3.alloc (.cells #[.int .i64 0, .int .i64 0, .int .i64 0] 27)) := G3.alloc G3.size _
          refine hK.out _ _ G4 (fun hHeld => ?_)
          clear hK K
          have NP := O3.new V3 27 (.int .i64 0) (.int .i64 0) (.int .i64 0)
          obtain ⟨pb, hb⟩ : ∃ b, V3.heap.size = b := ⟨_, rfl⟩
          have hRP : wr.heap.size ≤ pb := hb ▸ G3.size
          have hltP : qb < pb := hb ▸ NQ.lt
          replace NQ := NQ.alloc (.cells #[.int .i64 0, .int .i64 0, .int .i64 0] 27)
          rw [hb] at NP
          try simp only [hb]
          obtain ⟨V4, hV⟩ : ∃ V, V3.alloc (.cells #[.int .i64 0, .int .i64 0, .int .i64 0] 27) = V := ⟨_, rfl⟩
          simp only [hV] at NP G4 hHeld ⊢; simp only [hV] at NQ
          clear hV hb G3
          refine wpAnyH_ready (rs := [11]) (by kernel_rfl) (by simp) ?_
          refine AllReadyH.cons rfl (fun K hK => ?_) AllReadyH.nil
          obtain ⟨f0, f1, f2⟩ := NP.thaw
          obtain ⟨c0, c1, c2⟩ := NP.cells
          go_simp
          refine hK.out _ _ (below_set3 G4 hRP _ _ _) (fun hHeld => ?_)
          clear hK K f0 f1 f2 c0 c1 c2
          replace NP := NP.set (.int .i64 x) (.int .i64 y) (.int .i64 z)
          replace NQ := NQ.others (show qb ≠ pb by omega) (.int .i64 x) (.int .i64 y) (.int .i64 z)
          have G9 := below_set3 G4 hRP (.int .i64 x) (.int .i64 y) (.int .i64 z)
          obtain ⟨V9, hV9⟩ : ∃ V, (((V4.setCell ⟨pb, 0, none⟩ (.int .i64 x)).setCell ⟨pb, 1, none⟩ (.int .i64 y)).setCell ⟨pb, 2, none⟩ (.int .i64 z)) = V := ⟨_, rfl⟩
          simp only [hV9] at NP NQ G9 hHeld ⊢
          clear hV9
          refine wpAnyH_ready (rs := [12]) (by kernel_rfl) (by simp) ?_
          refine AllReadyH.cons rfl (fun K hK => ?_) AllReadyH.nil
          obtain ⟨f0, f1, f2⟩ := NQ.thaw
          obtain ⟨c0, c1, c2⟩ := NQ.cells
          go_simp
          refine hK.out _ _ (below_set3 G9 hRQ _ _ _) (fun hHeld => ?_)
          refine wpAnyH_done (by kernel_rfl) (Only.on ?_) _
          clear hK K hHeld
          go_wp2
          go_meet
          exact ⟨pb, qb, _, rfl, rfl, rfl, NP.others (show pb ≠ qb by omega) _ _ _, NQ.set _ _ _, below_set3 G9 hRQ _ _ _, hRP, hRQ⟩
        · skip
          go_simp
          have G3 : Below wr.heap.size wr (V2.alloc (.cells #[.int .i64 0, .int .i64 0, .int .i64 0] 27)) := G2.alloc G2.size _
          refine hK.out _ _ G3 (fun hHeld => ?_)
          clear hK K
          have NP := O3.new V2 27 (.int .i64 0) (.int .i64 0) (.int .i64 0)
          obtain ⟨pb, hb⟩ : ∃ b, V2.heap.size = b := ⟨_, rfl⟩
          have hRP : wr.heap.size ≤ pb := hb ▸ G2.size
          have hltP : qb < pb := hb ▸ NQ.lt
          replace NQ := NQ.alloc (.cells #[.int .i64 0, .int .i64 0, .int .i64 0] 27)
          rw [hb] at NP
          try simp only [hb]
          obtain ⟨V3, hV⟩ : ∃ V, V2.alloc (.cells #[.int .i64 0, .int .i64 0, .int .i64 0] 27) = V := ⟨_, rfl⟩
          simp only [hV] at NP G3 hHeld ⊢; simp only [hV] at NQ
          clear hV hb G2
          refine wpAnyH_ready (rs := [5]) (by kernel_rfl) (by simp) ?_
          refine AllReadyH.cons rfl (fun K hK => ?_) AllReadyH.nil
          go_simp
          refine (HSL.out _ (btrans HB G3)).mono ?_
          rintro e V4 ⟨rfl, bq⟩
          dsimp only
          have G4 : Below wr.heap.size wr V4 := btrans G3 bq
          refine hK.out _ _ G4 (fun hHeld => ?_)
          replace NP := NP.keep bq
          replace NQ := NQ.keep bq
          clear hK K bq G3
          refine takeO 6 (some 11) (v := ?v17) rfl rfl (by kernel_rfl) (by kernel_rfl) (by kernel_rfl) (Or.inl ⟨by rfl, ?y17⟩) hHeld ?r17
          case y17 => (intro w' hSw; (try dsimp only at hSw); go_simp; try with_reducible rfl)
          try simp only [Act.put, List.setIfInBounds_toArray, List.set_cons_zero, List.set_cons_succ]
          refine takeO 7 (some 18) (v := ?v18) rfl rfl (by kernel_rfl) (by kernel_rfl) (by kernel_rfl) (Or.inl ⟨by rfl, ?y18⟩) hHeld ?r18
          case y18 => (intro w' hSw; (try dsimp only at hSw); go_simp; try with_reducible rfl)
          try simp only [Act.put, List.setIfInBounds_toArray, List.set_cons_zero, List.set_cons_succ]
          refine takeO 8 (some 19) (v := ?v19) rfl rfl (by kernel_rfl) (by kernel_rfl) (by kernel_rfl) (Or.inl ⟨by rfl, ?y19⟩) hHeld ?r19
          case y19 => (intro w' hSw; (try dsimp only at hSw); go_simp; try with_reducible rfl)
          try simp only [Act.put, List.setIfInBounds_toArray, List.set_cons_zero, List.set_cons_succ]
          refine wpAnyH_ready (rs := [11]) (by kernel_rfl) (by simp) ?_
          refine AllReadyH.cons rfl (fun K hK => ?_) AllReadyH.nil
          obtain ⟨f0, f1, f2⟩ := NP.thaw
          obtain ⟨c0, c1, c2⟩ := NP.cells
          go_simp
          refine hK.out _ _ (below_set3 G4 hRP _ _ _) (fun hHeld => ?_)
          clear hK K f0 f1 f2 c0 c1 c2
          replace NP := NP.set (.int .i64 x) (.int .i64 y) (.int .i64 z)
          replace NQ := NQ.others (show qb ≠ pb by omega) (.int .i64 x) (.int .i64 y) (.int .i64 z)
          have G9 := below_set3 G4 hRP (.int .i64 x) (.int .i64 y) (.int .i64 z)
          obtain ⟨V9, hV9⟩ : ∃ V, (((V4.setCell ⟨pb, 0, none⟩ (.int .i64 x)).setCell ⟨pb, 1, none⟩ (.int .i64 y)).setCell ⟨pb, 2, none⟩ (.int .i64 z)) = V := ⟨_, rfl⟩
          simp only [hV9] at NP NQ G9 hHeld ⊢
          clear hV9
          refine wpAnyH_ready (rs := [12]) (by kernel_rfl) (by simp) ?_
          refine AllReadyH.cons rfl (fun K hK => ?_) AllReadyH.nil
          obtain ⟨f0, f1, f2⟩ := NQ.thaw
          obtain ⟨c0, c1, c2⟩ := NQ.cells
          go_simp
          refine hK.out _ _ (below_set3 G9 hRQ _ _ _) (fun hHeld => ?_)
          refine wpAnyH_done (by kernel_rfl) (Only.on ?_) _
          clear hK K hHeld
          go_wp2
          go_meet
          exact ⟨pb, qb, _, rfl, rfl, rfl, NP.others (show pb ≠ qb by omega) _ _ _, NQ.set _ _ _, below_set3 G9 hRQ _ _ _, hRP, hRQ⟩
    · skip
      go_simp
      have G1 : Below wr.heap.size wr (wr.alloc (.cells #[.int .i64 0, .int .i64 0, .int .i64 0] 27)).drew := ((Below.refl _ _).alloc (Nat.le_refl _) _).drew
      refine hK.out _ _ G1 (fun hHeld => ?_)
      clear hK K
      have NP : O3 (wr.alloc (.cells #[.int .i64 0, .int .i64 0, .int .i64 0] 27)).drew wr.heap.size 27 (.int .i64 0) (.int .i64 0) (.int .i64 0) := ⟨(O3.new wr 27 (.int .i64 0) (.int .i64 0) (.int .i64 0)).obj⟩
      obtain ⟨V1, hV⟩ : ∃ V, (wr.alloc (.cells #[.int .i64 0, .int .i64 0, .int .i64 0] 27)).drew = V := ⟨_, rfl⟩
      have hRP : wr.heap.size ≤ wr.heap.size := Nat.le_refl _
      simp only [hV] at NP G1 hHeld ⊢
      clear hV
      refine wpAnyH_ready (rs := [4, 10]) (by kernel_rfl) (by simp) ?_
      refine AllReadyH.cons rfl (fun K hK => ?_) (AllReadyH.cons rfl (fun K hK => ?_) AllReadyH.nil)
      · skip
        go_simp
        refine (walkVec a b c _).mono ?_
        rintro e V2 ⟨rfl, bq⟩
        dsimp only
        have G2 : Below wr.heap.size wr V2 := btrans G1 bq
        refine hK.out _ _ G2 (fun hHeld => ?_)
        replace NP := NP.keep bq
        clear hK K bq G1
        refine wpAnyH_ready (rs := [5, 10]) (by kernel_rfl) (by simp) ?_
        refine AllReadyH.cons rfl (fun K hK => ?_) (AllReadyH.cons rfl (fun K hK => ?_) AllReadyH.nil)
        · skip
          go_simp
          refine (HSL.out _ (btrans HB G2)).mono ?_
          rintro e V3 ⟨rfl, bq⟩
          dsimp only
          have G3 : Below wr.heap.size wr V3 := btrans G2 bq
          refine hK.out _ _ G3 (fun hHeld => ?_)
          replace NP := NP.keep bq
          clear hK K bq G2
          refine takeO 6 (some 11) (v := ?v20) rfl rfl (by kernel_rfl) (by kernel_rfl) (by kernel_rfl) (Or.inl ⟨by rfl, ?y20⟩) hHeld ?r20
          case y20 => (intro w' hSw; (try dsimp only at hSw); go_simp; try with_reducible rfl)
          try simp only [Act.put, List.setIfInBounds_toArray, List.set_cons_zero, List.set_cons_succ]
          refine takeO 7 (some 18) (v := ?v21) rfl rfl (by kernel_rfl) (by kernel_rfl) (by kernel_rfl) (Or.inl ⟨by rfl, ?y21⟩) hHeld ?r21
          case y21 => (intro w' hSw; (try dsimp only at hSw); go_simp; try with_reducible rfl)
          try simp only [Act.put, List.setIfInBounds_toArray, List.set_cons_zero, List.set_cons_succ]
          refine takeO 8 (some 19) (v := ?v22) rfl rfl (by kernel_rfl) (by kernel_rfl) (by kernel_rfl) (Or.inl ⟨by rfl, ?y22⟩) hHeld ?r22
          case y22 => (intro w' hSw; (try dsimp only at hSw); go_simp; try with_reducible rfl)
          try simp only [Act.put, List.setIfInBounds_toArray, List.set_cons_zero, List.set_cons_succ]
          refine wpAnyH_ready (rs := [10]) (by kernel_rfl) (by simp) ?_
          refine AllReadyH.cons rfl (fun K hK => ?_) AllReadyH.nil
          go_simp
          have G4 : Below wr.heap.size wr (V3.alloc (.cells #[.bool false, .bool false, .bool false] 57)) := G3.alloc G3.size _
          refine hK.out _ _ G4 (fun hHeld => ?_)
          clear hK K
          have NQ := O3.new V3 57 (.bool false) (.bool false) (.bool false)
          obtain ⟨qb, hb⟩ : ∃ b, V3.heap.size = b := ⟨_, rfl⟩
          have hRQ : wr.heap.size ≤ qb := hb ▸ G3.size
          have hltQ : wr.heap.size < qb := hb ▸ NP.lt
          replace NP := NP.alloc (.cells #[.bool false, .bool false, .bool false] 57)
          rw [hb] at NQ
          try simp only [hb]
          obtain ⟨V4, hV⟩ : ∃ V, V3.alloc (.cells #[.bool false, .bool false, .bool false] 57) = V := ⟨_, rfl⟩
          simp only [hV] at NQ G4 hHeld ⊢; simp only [hV] at NP
          clear hV hb G3
          refine wpAnyH_ready (rs := [11]) (by kernel_rfl) (by simp) ?_
          refine AllReadyH.cons rfl (fun K hK => ?_) AllReadyH.nil
          obtain ⟨f0, f1, f2⟩ := NP.thaw
          obtain ⟨c0, c1, c2⟩ := NP.cells
          go_simp
          refine hK.out _ _ (below_set3 G4 hRP _ _ _) (fun hHeld => ?_)
          clear hK K f0 f1 f2 c0 c1 c2
          replace NP := NP.set (.int .i64 x) (.int .i64 y) (.int .i64 z)
          replace NQ := NQ.others (show qb ≠ wr.heap.size by omega) (.int .i64 x) (.int .i64 y) (.int .i64 z)
          have G9 := below_set3 G4 hRP (.int .i64 x) (.int .i64 y) (.int .i64 z)
          obtain ⟨V9, hV9⟩ : ∃ V, (((V4.setCell ⟨wr.heap.size, 0, none⟩ (.int .i64 x)).setCell ⟨wr.heap.size, 1, none⟩ (.int .i64 y)).setCell ⟨wr.heap.size, 2, none⟩ (.int .i64 z)) = V := ⟨_, rfl⟩
          simp only [hV9] at NP NQ G9 hHeld ⊢
          clear hV9
          refine wpAnyH_ready (rs := [12]) (by kernel_rfl) (by simp) ?_
          refine AllReadyH.cons rfl (fun K hK => ?_) AllReadyH.nil
          obtain ⟨f0, f1, f2⟩ := NQ.thaw
          obtain ⟨c0, c1, c2⟩ := NQ.cells
          go_simp
          refine hK.out _ _ (below_set3 G9 hRQ _ _ _) (fun hHeld => ?_)
          refine wpAnyH_done (by kernel_rfl) (Only.on ?_) _
          clear hK K hHeld
          go_wp2
          go_meet
          exact ⟨wr.heap.size, qb, _, rfl, rfl, rfl, NP.others (show wr.heap.size ≠ qb by omega) _ _ _, NQ.set _ _ _, below_set3 G9 hRQ _ _ _, hRP, hRQ⟩
        · skip
          go_simp
          have G3 : Below wr.heap.size wr (V2.alloc (.cells #[.bool false, .bool false, .bool false] 57)) := G2.alloc G2.size _
          refine hK.out _ _ G3 (fun hHeld => ?_)
          clear hK K
          have NQ := O3.new V2 57 (.bool false) (.bool false) (.bool false)
          obtain ⟨qb, hb⟩ : ∃ b, V2.heap.size = b := ⟨_, rfl⟩
          have hRQ : wr.heap.size ≤ qb := hb ▸ G2.size
          have hltQ : wr.heap.size < qb := hb ▸ NP.lt
          replace NP := NP.alloc (.cells #[.bool false, .bool false, .bool false] 57)
          rw [hb] at NQ
          try simp only [hb]
          obtain ⟨V3, hV⟩ : ∃ V, V2.alloc (.cells #[.bool false, .bool false, .bool false] 57) = V := ⟨_, rfl⟩
          simp only [hV] at NQ G3 hHeld ⊢; simp only [hV] at NP
          clear hV hb G2
          refine wpAnyH_ready (rs := [5]) (by kernel_rfl) (by simp) ?_
          refine AllReadyH.cons rfl (fun K hK => ?_) AllReadyH.nil
          go_simp
          refine (HSL.out _ (btrans HB G3)).mono ?_
          rintro e V4 ⟨rfl, bq⟩
          dsimp only
          have G4 : Below wr.heap.size wr V4 := btrans G3 bq
          refine hK.out _ _ G4 (fun hHeld => ?_)
          replace NP := NP.keep bq
          replace NQ := NQ.keep bq
          clear hK K bq G3
          refine takeO 6 (some 11) (v := ?v23) rfl rfl (by kernel_rfl) (by kernel_rfl) (by kernel_rfl) (Or.inl ⟨by rfl, ?y23⟩) hHeld ?r23
          case y23 => (intro w' hSw; (try dsimp only at hSw); go_simp; try with_reducible rfl)
          try simp only [Act.put, List.setIfInBounds_toArray, List.set_cons_zero, List.set_cons_succ]
          refine takeO 7 (some 18) (v := ?v24) rfl rfl (by kernel_rfl) (by kernel_rfl) (by kernel_rfl) (Or.inl ⟨by rfl, ?y24⟩) hHeld ?r24
          case y24 => (intro w' hSw; (try dsimp only at hSw); go_simp; try with_reducible rfl)
          try simp only [Act.put, List.setIfInBounds_toArray, List.set_cons_zero, List.set_cons_succ]
          refine takeO 8 (some 19) (v := ?v25) rfl rfl (by kernel_rfl) (by kernel_rfl) (by kernel_rfl) (Or.inl ⟨by rfl, ?y25⟩) hHeld ?r25
          case y25 => (intro w' hSw; (try dsimp only at hSw); go_simp; try with_reducible rfl)
          try simp only [Act.put, List.setIfInBounds_toArray, List.set_cons_zero, List.set_cons_succ]
          refine wpAnyH_ready (rs := [11]) (by kernel_rfl) (by simp) ?_
          refine AllReadyH.cons rfl (fun K hK => ?_) AllReadyH.nil
          obtain ⟨f0, f1, f2⟩ := NP.thaw
          obtain ⟨c0, c1, c2⟩ := NP.cells
          go_simp
          refine hK.out _ _ (below_set3 G4 hRP _ _ _) (fun hHeld => ?_)
          clear hK K f0 f1 f2 c0 c1 c2
          replace NP := NP.set (.int .i64 x) (.int .i64 y) (.int .i64 z)
          replace NQ := NQ.others (show qb ≠ wr.heap.size by omega) (.int .i64 x) (.int .i64 y) (.int .i64 z)
          have G9 := below_set3 G4 hRP (.int .i64 x) (.int .i64 y) (.int .i64 z)
          obtain ⟨V9, hV9⟩ : ∃ V, (((V4.setCell ⟨wr.heap.size, 0, none⟩ (.int .i64 x)).setCell ⟨wr.heap.size, 1, none⟩ (.int .i64 y)).setCell ⟨wr.heap.size, 2, none⟩ (.int .i64 z)) = V := ⟨_, rfl⟩
          simp only [hV9] at NP NQ G9 hHeld ⊢
          clear hV9
          refine wpAnyH_ready (rs := [12]) (by kernel_rfl) (by simp) ?_
          refine AllReadyH.cons rfl (fun K hK => ?_) AllReadyH.nil
          obtain ⟨f0, f1, f2⟩ := NQ.thaw
          obtain ⟨c0, c1, c2⟩ := NQ.cells
          go_simp
          refine hK.out _ _ (below_set3 G9 hRQ _ _ _) (fun hHeld => ?_)
          refine wpAnyH_done (by kernel_rfl) (Only.on ?_) _
          clear hK K hHeld
          go_wp2
          go_meet
          exact ⟨wr.heap.size, qb, _, rfl, rfl, rfl, NP.others (show wr.heap.size ≠ qb by omega) _ _ _, NQ.set _ _ _, below_set3 G9 hRQ _ _ _, hRP, hRQ⟩
      · skip
        go_simp
        have G2 : Below wr.heap.size wr (V1.alloc (.cells #[.bool false, .bool false, .bool false] 57)) := G1.alloc G1.size _
        refine hK.out _ _ G2 (fun hHeld => ?_)
        clear hK K
        have NQ := O3.new V1 57 (.bool false) (.bool false) (.bool false)
        obtain ⟨qb, hb⟩ : ∃ b, V1.heap.size = b := ⟨_, rfl⟩
        have hRQ : wr.heap.size ≤ qb := hb ▸ G1.size
        have hltQ : wr.heap.size < qb := hb ▸ NP.lt
        replace NP := NP.alloc (.cells #[.bool false, .bool false, .bool false] 57)
        rw [hb] at NQ
        try simp only [hb]
        obtain ⟨V2, hV⟩ : ∃ V, V1.alloc (.cells #[.bool false, .bool false, .bool false] 57) = V := ⟨_, rfl⟩
        simp only [hV] at NQ G2 hHeld ⊢; simp only [hV] at NP
        clear hV hb G1
        refine wpAnyH_ready (rs := [4]) (by kernel_rfl) (by simp) ?_
        refine AllReadyH.cons rfl (fun K hK => ?_) AllReadyH.nil
        go_simp
        refine (walkVec a b c _).mono ?_
        rintro e V3 ⟨rfl, bq⟩
        dsimp only
        have G3 : Below wr.heap.size wr V3 := btrans G2 bq
        refine hK.out _ _ G3 (fun hHeld => ?_)
        replace NP := NP.keep bq
        replace NQ := NQ.keep bq
        clear hK K bq G2
        refine wpAnyH_ready (rs := [5]) (by kernel_rfl) (by simp) ?_
        refine AllReadyH.cons rfl (fun K hK => ?_) AllReadyH.nil
        go_simp
        refine (HSL.out _ (btrans HB G3)).mono ?_
        rintro e V4 ⟨rfl, bq⟩
        dsimp only
        have G4 : Below wr.heap.size wr V4 := btrans G3 bq
        refine hK.out _ _ G4 (fun hHeld => ?_)
        replace NP := NP.keep bq
        replace NQ := NQ.keep bq
        clear hK K bq G3
        refine takeO 6 (some 11) (v := ?v26) rfl rfl (by kernel_rfl) (by kernel_rfl) (by kernel_rfl) (Or.inl ⟨by rfl, ?y26⟩) hHeld ?r26
        case y26 => (intro w' hSw; (try dsimp only at hSw); go_simp; try with_reducible rfl)
        try simp only [Act.put, List.setIfInBounds_toArray, List.set_cons_zero, List.set_cons_succ]
        refine takeO 7 (some 18) (v := ?v27) rfl rfl (by kernel_rfl) (by kernel_rfl) (by kernel_rfl) (Or.inl ⟨by rfl, ?y27⟩) hHeld ?r27
        case y27 => (intro w' hSw; (try dsimp only at hSw); go_simp; try with_reducible rfl)
        try simp only [Act.put, List.setIfInBounds_toArray, List.set_cons_zero, List.set_cons_succ]
        refine takeO 8 (some 19) (v := ?v28) rfl rfl (by kernel_rfl) (by kernel_rfl) (by kernel_rfl) (Or.inl ⟨by rfl, ?y28⟩) hHeld ?r28
        case y28 => (intro w' hSw; (try dsimp only at hSw); go_simp; try with_reducible rfl)
        try simp only [Act.put, List.setIfInBounds_toArray, List.set_cons_zero, List.set_cons_succ]
        refine wpAnyH_ready (rs := [11]) (by kernel_rfl) (by simp) ?_
        refine AllReadyH.cons rfl (fun K hK => ?_) AllReadyH.nil
        obtain ⟨f0, f1, f2⟩ := NP.thaw
        obtain ⟨c0, c1, c2⟩ := NP.cells
        go_simp
        refine hK.out _ _ (below_set3 G4 hRP _ _ _) (fun hHeld => ?_)
        clear hK K f0 f1 f2 c0 c1 c2
        replace NP := NP.set (.int .i64 x) (.int .i64 y) (.int .i64 z)
        replace NQ := NQ.others (show qb ≠ wr.heap.size by omega) (.int .i64 x) (.int .i64 y) (.int .i64 z)
        have G9 := below_set3 G4 hRP (.int .i64 x) (.int .i64 y) (.int .i64 z)
        obtain ⟨V9, hV9⟩ : ∃ V, (((V4.setCell ⟨wr.heap.size, 0, none⟩ (.int .i64 x)).setCell ⟨wr.heap.size, 1, none⟩ (.int .i64 y)).setCell ⟨wr.heap.size, 2, none⟩ (.int .i64 z)) = V := ⟨_, rfl⟩
        simp only [hV9] at NP NQ G9 hHeld ⊢
        clear hV9
        refine wpAnyH_ready (rs := [12]) (by kernel_rfl) (by simp) ?_
        refine AllReadyH.cons rfl (fun K hK => ?_) AllReadyH.nil
        obtain ⟨f0, f1, f2⟩ := NQ.thaw
        obtain ⟨c0, c1, c2⟩ := NQ.cells
        go_simp
        refine hK.out _ _ (below_set3 G9 hRQ _ _ _) (fun hHeld => ?_)
        refine wpAnyH_done (by kernel_rfl) (Only.on ?_) _
        clear hK K hHeld
        go_wp2
        go_meet
        exact ⟨wr.heap.size, qb, _, rfl, rfl, rfl, NP.others (show wr.heap.size ≠ qb by omega) _ _ _, NQ.set _ _ _, below_set3 G9 hRQ _ _ _, hRP, hRQ⟩
    · skip
      go_simp
      have G1 : Below wr.heap.size wr (wr.alloc (.cells #[.bool false, .bool false, .bool false] 57)).drew := ((Below.refl _ _).alloc (Nat.le_refl _) _).drew
      refine hK.out _ _ G1 (fun hHeld => ?_)
      clear hK K
      have NQ : O3 (wr.alloc (.cells #[.bool false, .bool false, .bool false] 57)).drew wr.heap.size 57 (.bool false) (.bool false) (.bool false) := ⟨(O3.new wr 57 (.bool false) (.bool false) (.bool false)).obj⟩
      obtain ⟨V1, hV⟩ : ∃ V, (wr.alloc (.cells #[.bool false, .bool false, .bool false] 57)).drew = V := ⟨_, rfl⟩
      have hRQ : wr.heap.size ≤ wr.heap.size := Nat.le_refl _
      simp only [hV] at NQ G1 hHeld ⊢
      clear hV
      refine wpAnyH_ready (rs := [4, 9]) (by kernel_rfl) (by simp) ?_
      refine AllReadyH.cons rfl (fun K hK => ?_) (AllReadyH.cons rfl (fun K hK => ?_) AllReadyH.nil)
      · skip
        go_simp
        refine (walkVec a b c _).mono ?_
        rintro e V2 ⟨rfl, bq⟩
        dsimp only
        have G2 : Below wr.heap.size wr V2 := btrans G1 bq
        refine hK.out _ _ G2 (fun hHeld => ?_)
        replace NQ := NQ.keep bq
        clear hK K bq G1
        refine wpAnyH_ready (rs := [5, 9]) (by kernel_rfl) (by simp) ?_
        refine AllReadyH.cons rfl (fun K hK => ?_) (AllReadyH.cons rfl (fun K hK => ?_) AllReadyH.nil)
        · skip
          go_simp
          refine (HSL.out _ (btrans HB G2)).mono ?_
          rintro e V3 ⟨rfl, bq⟩
          dsimp only
          have G3 : Below wr.heap.size wr V3 := btrans G2 bq
          refine hK.out _ _ G3 (fun hHeld => ?_)
          replace NQ := NQ.keep bq
          clear hK K bq G2
          refine takeO 6 (some 11) (v := ?v29) rfl rfl (by kernel_rfl) (by kernel_rfl) (by kernel_rfl) (Or.inl ⟨by rfl, ?y29⟩) hHeld ?r29
          case y29 => (intro w' hSw; (try dsimp only at hSw); go_simp; try with_reducible rfl)
          try simp only [Act.put, List.setIfInBounds_toArray, List.set_cons_zero, List.set_cons_succ]
          refine takeO 7 (some 18) (v := ?v30) rfl rfl (by kernel_rfl) (by kernel_rfl) (by kernel_rfl) (Or.inl ⟨by rfl, ?y30⟩) hHeld ?r30
          case y30 => (intro w' hSw; (try dsimp only at hSw); go_simp; try with_reducible rfl)
          try simp only [Act.put, List.setIfInBounds_toArray, List.set_cons_zero, List.set_cons_succ]
          refine takeO 8 (some 19) (v := ?v31) rfl rfl (by kernel_rfl) (by kernel_rfl) (by kernel_rfl) (Or.inl ⟨by rfl, ?y31⟩) hHeld ?r31
          case y31 => (intro w' hSw; (try dsimp only at hSw); go_simp; try with_reducible rfl)
          try simp only [Act.put, List.setIfInBounds_toArray, List.set_cons_zero, List.set_cons_succ]
          refine wpAnyH_ready (rs := [9]) (by kernel_rfl) (by simp) ?_
          refine AllReadyH.cons rfl (fun K hK => ?_) AllReadyH.nil
          go_simp
          have G4 : Below wr.heap.size wr (V3.alloc (.cells #[.int .i64 0, .int .i64 0, .int .i64 0] 27)) := G3.alloc G3.size _
          refine hK.out _ _ G4 (fun hHeld => ?_)
          clear hK K
          have NP := O3.new V3 27 (.int .i64 0) (.int .i64 0) (.int .i64 0)
          obtain ⟨pb, hb⟩ : ∃ b, V3.heap.size = b := ⟨_, rfl⟩
          have hRP : wr.heap.size ≤ pb := hb ▸ G3.size
          have hltP : wr.heap.size < pb := hb ▸ NQ.lt
          replace NQ := NQ.alloc (.cells #[.int .i64 0, .int .i64 0, .int .i64 0] 27)
          rw [hb] at NP
          try simp only [hb]
          obtain ⟨V4, hV⟩ : ∃ V, V3.alloc (.cells #[.int .i64 0, .int .i64 0, .int .i64 0] 27) = V := ⟨_, rfl⟩
          simp only [hV] at NP G4 hHeld ⊢; simp only [hV] at NQ
          clear hV hb G3
          refine wpAnyH_ready (rs := [11]) (by kernel_rfl) (by simp) ?_
          refine AllReadyH.cons rfl (fun K hK => ?_) AllReadyH.nil
          obtain ⟨f0, f1, f2⟩ := NP.thaw
          obtain ⟨c0, c1, c2⟩ := NP.cells
          go_simp
          refine hK.out _ _ (below_set3 G4 hRP _ _ _) (fun hHeld => ?_)
          clear hK K f0 f1 f2 c0 c1 c2
          replace NP := NP.set (.int .i64 x) (.int .i64 y) (.int .i64 z)
          replace NQ := NQ.others (show wr.heap.size ≠ pb by omega) (.int .i64 x) (.int .i64 y) (.int .i64 z)
          have G9 := below_set3 G4 hRP (.int .i64 x) (.int .i64 y) (.int .i64 z)
          obtain ⟨V9, hV9⟩ : ∃ V, (((V4.setCell ⟨pb, 0, none⟩ (.int .i64 x)).setCell ⟨pb, 1, none⟩ (.int .i64 y)).setCell ⟨pb, 2, none⟩ (.int .i64 z)) = V := ⟨_, rfl⟩
          simp only [hV9] at NP NQ G9 hHeld ⊢
          clear hV9
          refine wpAnyH_ready (rs := [12]) (by kernel_rfl) (by simp) ?_
          refine AllReadyH.cons rfl (fun K hK => ?_) AllReadyH.nil
          obtain ⟨f0, f1, f2⟩ := NQ.thaw
          obtain ⟨c0, c1, c2⟩ := NQ.cells
          go_simp
          refine hK.out _ _ (below_set3 G9 hRQ _ _ _) (fun hHeld => ?_)
          refine wpAnyH_done (by kernel_rfl) (Only.on ?_) _
          clear hK K hHeld
          go_wp2
          go_meet
          exact ⟨pb, wr.heap.size, _, rfl, rfl, rfl, NP.others (show pb ≠ wr.heap.size by omega) _ _ _, NQ.set _ _ _, below_set3 G9 hRQ _ _ _, hRP, hRQ⟩
        · skip
          go_simp
          have G3 : Below wr.heap.size wr (V2.alloc (.cells #[.int .i64 0, .int .i64 0, .int .i64 0] 27)) := G2.alloc G2.size _
          refine hK.out _ _ G3 (fun hHeld => ?_)
          clear hK K
          have NP := O3.new V2 27 (.int .i64 0) (.int .i64 0) (.int .i64 0)
          obtain ⟨pb, hb⟩ : ∃ b, V2.heap.size = b := ⟨_, rfl⟩
          have hRP : wr.heap.size ≤ pb := hb ▸ G2.size
          have hltP : wr.heap.size < pb := hb ▸ NQ.lt
          replace NQ := NQ.alloc (.cells #[.int .i64 0, .int .i64 0, .int .i64 0] 27)
          rw [hb] at NP
          try simp only [hb]
          obtain ⟨V3, hV⟩ : ∃ V, V2.alloc (.cells #[.int .i64 0, .int .i64 0, .int .i64 0] 27) = V := ⟨_, rfl⟩
          simp only [hV] at NP G3 hHeld ⊢; simp only [hV] at NQ
          clear hV hb G2
          refine wpAnyH_ready (rs := [5]) (by kernel_rfl) (by simp) ?_
          refine AllReadyH.cons rfl (fun K hK => ?_) AllReadyH.nil
          go_simp
          refine (HSL.out _ (btrans HB G3)).mono ?_
          rintro e V4 ⟨rfl, bq⟩
          dsimp only
          have G4 : Below wr.heap.size wr V4 := btrans G3 bq
          refine hK.out _ _ G4 (fun hHeld => ?_)
          replace NP := NP.keep bq
          replace NQ := NQ.keep bq
          clear hK K bq G3
          refine takeO 6 (some 11) (v := ?v32) rfl rfl (by kernel_rfl) (by kernel_rfl) (by kernel_rfl) (Or.inl ⟨by rfl, ?y32⟩) hHeld ?r32
          case y32 => (intro w' hSw; (try dsimp only at hSw); go_simp; try with_reducible rfl)
          try simp only [Act.put, List.setIfInBounds_toArray, List.set_cons_zero, List.set_cons_succ]
          refine takeO 7 (some 18) (v := ?v33) rfl rfl (by kernel_rfl) (by kernel_rfl) (by kernel_rfl) (Or.inl ⟨by rfl, ?y33⟩) hHeld ?r33
          case y33 => (intro w' hSw; (try dsimp only at hSw); go_simp; try with_reducible rfl)
          try simp only [Act.put, List.setIfInBounds_toArray, List.set_cons_zero, List.set_cons_succ]
          refine takeO 8 (some 19) (v := ?v34) rfl rfl (by kernel_rfl) (by kernel_rfl) (by kernel_rfl) (Or.inl ⟨by rfl, ?y34⟩) hHeld ?r34
          case y34 => (intro w' hSw; (try dsimp only at hSw); go_simp; try with_reducible rfl)
          try simp only [Act.put, List.setIfInBounds_toArray, List.set_cons_zero, List.set_cons_succ]
          refine wpAnyH_ready (rs := [11]) (by kernel_rfl) (by simp) ?_
          refine AllReadyH.cons rfl (fun K hK => ?_) AllReadyH.nil
          obtain ⟨f0, f1, f2⟩ := NP.thaw
          obtain ⟨c0, c1, c2⟩ := NP.cells
          go_simp
          refine hK.out _ _ (below_set3 G4 hRP _ _ _) (fun hHeld => ?_)
          clear hK K f0 f1 f2 c0 c1 c2
          replace NP := NP.set (.int .i64 x) (.int .i64 y) (.int .i64 z)
          replace NQ := NQ.others (show wr.heap.size ≠ pb by omega) (.int .i64 x) (.int .i64 y) (.int .i64 z)
          have G9 := below_set3 G4 hRP (.int .i64 x) (.int .i64 y) (.int .i64 z)
          obtain ⟨V9, hV9⟩ : ∃ V, (((V4.setCell ⟨pb, 0, none⟩ (.int .i64 x)).setCell ⟨pb, 1, none⟩ (.int .i64 y)).setCell ⟨pb, 2, none⟩ (.int .i64 z)) = V := ⟨_, rfl⟩
          simp only [hV9] at NP NQ G9 hHeld ⊢
          clear hV9
          refine wpAnyH_ready (rs := [12]) (by kernel_rfl) (by simp) ?_
          refine AllReadyH.cons rfl (fun K hK => ?_) AllReadyH.nil
          obtain ⟨f0, f1, f2⟩ := NQ.thaw
          obtain ⟨c0, c1, c2⟩ := NQ.cells
          go_simp
          refine hK.out _ _ (below_set3 G9 hRQ _ _ _) (fun hHeld => ?_)
          refine wpAnyH_done (by kernel_rfl) (Only.on ?_) _
          clear hK K hHeld
          go_wp2
          go_meet
          exact ⟨pb, wr.heap.size, _, rfl, rfl, rfl, NP.others (show pb ≠ wr.heap.size by omega) _ _ _, NQ.set _ _ _, below_set3 G9 hRQ _ _ _, hRP, hRQ⟩
      · skip
        go_simp
        have G2 : Below wr.heap.size wr (V1.alloc (.cells #[.int .i64 0, .int .i64 0, .int .i64 0] 27)) := G1.alloc G1.size _
        refine hK.out _ _ G2 (fun hHeld => ?_)
        clear hK K
        have NP := O3.new V1 27 (.int .i64 0) (.int .i64 0) (.int .i64 0)
        obtain ⟨pb, hb⟩ : ∃ b, V1.heap.size = b := ⟨_, rfl⟩
        have hRP : wr.heap.size ≤ pb := hb ▸ G1.size
        have hltP : wr.heap.size < pb := hb ▸ NQ.lt
        replace NQ := NQ.alloc (.cells #[.int .i64 0, .int .i64 0, .int .i64 0] 27)
        rw [hb] at NP
        try simp only [hb]
        obtain ⟨V2, hV⟩ : ∃ V, V1.alloc (.cells #[.int .i64 0, .int .i64 0, .int .i64 0] 27) = V := ⟨_, rfl⟩
        simp only [hV] at NP G2 hHeld ⊢; simp only [hV] at NQ
        clear hV hb G1
        refine wpAnyH_ready (rs := [4]) (by kernel_rfl) (by simp) ?_
        refine AllReadyH.cons rfl (fun K hK => ?_) AllReadyH.nil
        go_simp
        refine (walkVec a b c _).mono ?_
        rintro e V3 ⟨rfl, bq⟩
        dsimp only
        have G3 : Below wr.heap.size wr V3 := btrans G2 bq
        refine hK.out _ _ G3 (fun hHeld => ?_)
        replace NP := NP.keep bq
        replace NQ := NQ.keep bq
        clear hK K bq G2
        refine wpAnyH_ready (rs := [5]) (by kernel_rfl) (by simp) ?_
        refine AllReadyH.cons rfl (fun K hK => ?_) AllReadyH.nil
        go_simp
        refine (HSL.out _ (btrans HB G3)).mono ?_
        rintro e V4 ⟨rfl, bq⟩
        dsimp only
        have G4 : Below wr.heap.size wr V4 := btrans G3 bq
        refine hK.out _ _ G4 (fun hHeld => ?_)
        replace NP := NP.keep bq
        replace NQ := NQ.keep bq
        clear hK K bq G3
        refine takeO 6 (some 11) (v := ?v35) rfl rfl (by kernel_rfl) (by kernel_rfl) (by kernel_rfl) (Or.inl ⟨by rfl, ?y35⟩) hHeld ?r35
        case y35 => (intro w' hSw; (try dsimp only at hSw); go_simp; try with_reducible rfl)
        try simp only [Act.put, List.setIfInBounds_toArray, List.set_cons_zero, List.set_cons_succ]
        refine takeO 7 (some 18) (v := ?v36) rfl rfl (by kernel_rfl) (by kernel_rfl) (by kernel_rfl) (Or.inl ⟨by rfl, ?y36⟩) hHeld ?r36
        case y36 => (intro w' hSw; (try dsimp only at hSw); go_simp; try with_reducible rfl)
        try simp only [Act.put, List.setIfInBounds_toArray, List.set_cons_zero, List.set_cons_succ]
        refine takeO 8 (some 19) (v := ?v37) rfl rfl (by kernel_rfl) (by kernel_rfl) (by kernel_rfl) (Or.inl ⟨by rfl, ?y37⟩) hHeld ?r37
        case y37 => (intro w' hSw; (try dsimp only at hSw); go_simp; try with_reducible rfl)
        try simp only [Act.put, List.setIfInBounds_toArray, List.set_cons_zero, List.set_cons_succ]
        refine wpAnyH_ready (rs := [11]) (by kernel_rfl) (by simp) ?_
        refine AllReadyH.cons rfl (fun K hK => ?_) AllReadyH.nil
        obtain ⟨f0, f1, f2⟩ := NP.thaw
        obtain ⟨c0, c1, c2⟩ := NP.cells
        go_simp
        refine hK.out _ _ (below_set3 G4 hRP _ _ _) (fun hHeld => ?_)
        clear hK K f0 f1 f2 c0 c1 c2
        replace NP := NP.set (.int .i64 x) (.int .i64 y) (.int .i64 z)
        replace NQ := NQ.others (show wr.heap.size ≠ pb by omega) (.int .i64 x) (.int .i64 y) (.int .i64 z)
        have G9 := below_set3 G4 hRP (.int .i64 x) (.int .i64 y) (.int .i64 z)
        obtain ⟨V9, hV9⟩ : ∃ V, (((V4.setCell ⟨pb, 0, none⟩ (.int .i64 x)).setCell ⟨pb, 1, none⟩ (.int .i64 y)).setCell ⟨pb, 2, none⟩ (.int .i64 z)) = V := ⟨_, rfl⟩
        simp only [hV9] at NP NQ G9 hHeld ⊢
        clear hV9
        refine wpAnyH_ready (rs := [12]) (by kernel_rfl) (by simp) ?_
        refine AllReadyH.cons rfl (fun K hK => ?_) AllReadyH.nil
        obtain ⟨f0, f1, f2⟩ := NQ.thaw
        obtain ⟨c0, c1, c2⟩ := NQ.cells
        go_simp
        refine hK.out _ _ (below_set3 G9 hRQ _ _ _) (fun hHeld => ?_)
        refine wpAnyH_done (by kernel_rfl) (Only.on ?_) _
        clear hK K hHeld
        go_wp2
        go_meet
        exact ⟨pb, wr.heap.size, _, rfl, rfl, rfl, NP.others (show pb ≠ wr.heap.size by omega) _ _ _, NQ.set _ _ _, below_set3 G9 hRQ _ _ _, hRP, hRQ⟩
  case rest =>
  clear HSL rm0 rm1 rm2 rm3 rm4 rp1 rp2 rp3 ra0 ra1 ra2
  obtain ⟨pb, qb, U1, rfl, rfl, eU, NP, NQ, G, hpb, hqb⟩ := hcut
  replace eU := eU.symm
  subst eU
  have lO := O0.lt; have lP := P0.lt; have lA := A0.lt; have lQ := Q0.lt
  replace O0 := O0.keep G; replace P0 := P0.keep G; replace A0 := A0.keep G; replace Q0 := Q0.keep G; replace HB := btrans HB G
  obtain ⟨n0, n1, n2⟩ := NP.cells
  obtain ⟨p0, p1, p2, p3, p4, p5, p6, p7, p8, p9, p10, p11, p12, p13, p14⟩ := P0.cells
  obtain ⟨f0, f1, f2, f3, f4, f5, f6, f7, f8, f9, f10, f11, f12, f13, f14⟩ := P0.thaw
  go_upto_region 3 with fail
  replace O0 := O0.fr (fr3 _ (mb + 1) 1 2 3 (.int .i64 x) (.int .i64 y) (.int .i64 z)) (show ¬ (mb = mb + 1) by omega)
  replace P0 := P0.pos x y z
  replace A0 := A0.fr (fr3 _ (mb + 1) 1 2 3 (.int .i64 x) (.int .i64 y) (.int .i64 z)) (show ¬ (mb + 1 + 1 = mb + 1) by omega)
  replace Q0 := Q0.fr (fr3 _ (mb + 1) 1 2 3 (.int .i64 x) (.int .i64 y) (.int .i64 z)) (show ¬ (mb + 1 + 1 + 1 = mb + 1) by omega)
  replace NP := NP.fr (fr3 _ (mb + 1) 1 2 3 (.int .i64 x) (.int .i64 y) (.int .i64 z)) (show ¬ (pb = mb + 1) by omega)
  replace NQ := NQ.fr (fr3 _ (mb + 1) 1 2 3 (.int .i64 x) (.int .i64 y) (.int .i64 z)) (show ¬ (qb = mb + 1) by omega)
  replace HB := below_fr HB (fr3 _ (mb + 1) 1 2 3 (.int .i64 x) (.int .i64 y) (.int .i64 z)) (Nat.le_refl _) (by intro k hk; replace hk : k = mb + 1 := hk; omega)
  clear n0 n1 n2
  clear p0 p1 p2 p3 p4 p5 p6 p7 p8 p9 p10 p11 p12 p13 p14
  clear f0 f1 f2 f3 f4 f5 f6 f7 f8 f9 f10 f11 f12 f13 f14
  generalize ((U1.setCell ⟨mb + 1, 1, none⟩ (.int .i64 x)).setCell ⟨mb + 1, 2, none⟩ (.int .i64 y)).setCell ⟨mb + 1, 3, none⟩ (.int .i64 z) = U2 at *
  obtain ⟨g, hg⟩ : ∃ g, (b3 && decide (c < 0)) = g := ⟨_, rfl⟩
  go_cut [31] from 22 to 29 (fun _ wx => wx = U2.setCell ⟨mb + 1, 7, none⟩ (.bool g))
  case first =>
    obtain ⟨n0, n1, n2⟩ := NQ.cells
    obtain ⟨a0, a1, a2⟩ := A0.cells
    obtain ⟨p0, p1, p2, p3, p4, p5, p6, p7, p8, p9, p10, p11, p12, p13, p14⟩ := P0.cells
    obtain ⟨f0, f1, f2, f3, f4, f5, f6, f7, f8, f9, f10, f11, f12, f13, f14⟩ := P0.thaw
    clear O0 P0 A0 Q0 NP NQ HB HQ
    cases b3 with
    | false =>
      replace hg : false = g := hg
      subst hg
      go_wp2
      go_meet
      exact rfl
    | true =>
      replace hg : decide (c < 0) = g := hg
      subst hg
      go_wp2
      go_meet
      exact rfl
  case rest =>
  replace hcut := hcut.symm
  subst hcut
  replace O0 := O0.fr (fr1 _ (mb + 1) 7 (.bool g)) (show ¬ (mb = mb + 1) by omega)
  replace P0 := P0.s7 g
  replace A0 := A0.fr (fr1 _ (mb + 1) 7 (.bool g)) (show ¬ (mb + 1 + 1 = mb + 1) by omega)
  replace Q0 := Q0.fr (fr1 _ (mb + 1) 7 (.bool g)) (show ¬ (mb + 1 + 1 + 1 = mb + 1) by omega)
  replace NP := NP.fr (fr1 _ (mb + 1) 7 (.bool g)) (show ¬ (pb = mb + 1) by omega)
  replace NQ := NQ.fr (fr1 _ (mb + 1) 7 (.bool g)) (show ¬ (qb = mb + 1) by omega)
  replace HB := below_fr HB (fr1 _ (mb + 1) 7 (.bool g)) (Nat.le_refl _) (by intro k hk; replace hk : k = mb + 1 := hk; omega)
  generalize U2.setCell ⟨mb + 1, 7, none⟩ (.bool g) = U3 at *
  have HGG := hid hg
  clear hg
  obtain ⟨n0, n1, n2⟩ := NQ.cells
  obtain ⟨i0, i1, i2⟩ := idx3b b1 b2 b3
  go_wp2
  clear n0 n1 n2
  obtain ⟨x1, hx1⟩ : ∃ n, hlt b1 a = n := ⟨_, rfl⟩
  obtain ⟨y1, hy1⟩ : ∃ n, hlt b2 b = n := ⟨_, rfl⟩
  obtain ⟨z1, hz1⟩ : ∃ n, hlt b3 c = n := ⟨_, rfl⟩
  replace hx1 := hid hx1; replace hy1 := hid hy1; replace hz1 := hid hz1
  go_loopw [31] (fun v wr => ∃ (i : Nat) (d1 d2 d3 : Int) (V : World), v = .int .i64 i ∧ wr = V ∧ L3 a b c x1 y1 z1 i d1 d2 d3 ∧ PlAt V (mb + 1) { p with px := x, py := y, pz := z, gr := g } ∧ O3 V (mb + 1 + 1) 49 (.int .i64 d1) (.int .i64 d2) (.int .i64 d3) ∧ PlAt V (mb + 1 + 1 + 1) noPl ∧ Below w.heap.size w V) (fun v _ => 3 - (intOf v).toNat)
  case atStart => exact ⟨0, _, _, _, _, rfl, rfl, .s0, P0, A0, Q0, HB⟩
  case round =>
    clear O0 P0 A0 Q0 NP NQ HB
    obtain ⟨i, d1, d2, d3, V, rfl, eV, hI, P0, A0, Q0, HB⟩ := hrel
    subst eV
    cases hI with
    | s0 =>
      obtain ⟨a0, a1, a2⟩ := A0.cells
      obtain ⟨t0, t1, t2⟩ := A0.thaw
      cases b1 with
      | false =>
        replace hx1 : a = x1 := hx1.out
        subst hx1
        go_wp2
        exact ⟨⟨1, _, _, _, _, rfl, rfl, .s1, P0, A0, Q0, HB⟩, by simp [intOf]⟩
      | true =>
        replace hx1 : 0 = x1 := hx1.out
        subst hx1
        replace P0 := P0.fr (fr1 _ (mb + 1 + 1) 0 (.int .i64 0)) (show ¬ (mb + 1 = mb + 1 + 1) by omega); replace Q0 := Q0.fr (fr1 _ (mb + 1 + 1) 0 (.int .i64 0)) (show ¬ (mb + 1 + 1 + 1 = mb + 1 + 1) by omega); replace A0 := A0.set0 (.int .i64 0)
        replace HB := below_fr HB (fr1 _ (mb + 1 + 1) 0 (.int .i64 0)) (Nat.le_refl _) (by intro k hk; replace hk : k = mb + 1 + 1 := hk; omega)
        go_wp2
        exact ⟨⟨1, _, _, _, _, rfl, rfl, .s1, P0, A0, Q0, HB⟩, by simp [intOf]⟩
    | s1 =>
      obtain ⟨a0, a1, a2⟩ := A0.cells
      obtain ⟨t0, t1, t2⟩ := A0.thaw
      cases b2 with
      | false =>
        replace hy1 : b = y1 := hy1.out
        subst hy1
        go_wp2
        exact ⟨⟨2, _, _, _, _, rfl, rfl, .s2, P0, A0, Q0, HB⟩, by simp [intOf]⟩
      | true =>
        replace hy1 : 0 = y1 := hy1.out
        subst hy1
        replace P0 := P0.fr (fr1 _ (mb + 1 + 1) 1 (.int .i64 0)) (show ¬ (mb + 1 = mb + 1 + 1) by omega); replace Q0 := Q0.fr (fr1 _ (mb + 1 + 1) 1 (.int .i64 0)) (show ¬ (mb + 1 + 1 + 1 = mb + 1 + 1) by omega); replace A0 := A0.set1 (.int .i64 0)
        replace HB := below_fr HB (fr1 _ (mb + 1 + 1) 1 (.int .i64 0)) (Nat.le_refl _) (by intro k hk; replace hk : k = mb + 1 + 1 := hk; omega)
        go_wp2
        exact ⟨⟨2, _, _, _, _, rfl, rfl, .s2, P0, A0, Q0, HB⟩, by simp [intOf]⟩
    | s2 =>
      obtain ⟨a0, a1, a2⟩ := A0.cells
      obtain ⟨t0, t1, t2⟩ := A0.thaw
      cases b3 with
      | false =>
        replace hz1 : c = z1 := hz1.out
        subst hz1
        go_wp2
        exact ⟨⟨3, _, _, _, _, rfl, rfl, .s3, P0, A0, Q0, HB⟩, by simp [intOf]⟩
      | true =>
        replace hz1 : 0 = z1 := hz1.out
        subst hz1
        replace P0 := P0.fr (fr1 _ (mb + 1 + 1) 2 (.int .i64 0)) (show ¬ (mb + 1 = mb + 1 + 1) by omega); replace Q0 := Q0.fr (fr1 _ (mb + 1 + 1) 2 (.int .i64 0)) (show ¬ (mb + 1 + 1 + 1 = mb + 1 + 1) by omega); replace A0 := A0.set2 (.int .i64 0)
        replace HB := below_fr HB (fr1 _ (mb + 1 + 1) 2 (.int .i64 0)) (Nat.le_refl _) (by intro k hk; replace hk : k = mb + 1 + 1 := hk; omega)
        go_wp2
        exact ⟨⟨3, _, _, _, _, rfl, rfl, .s3, P0, A0, Q0, HB⟩, by simp [intOf]⟩
    | s3 =>
      obtain ⟨a0, a1, a2⟩ := A0.cells
      obtain ⟨p0, p1, p2, p3, p4, p5, p6, p7, p8, p9, p10, p11, p12, p13, p14⟩ := P0.cells
      obtain ⟨f0, f1, f2, f3, f4, f5, f6, f7, f8, f9, f10, f11, f12, f13, f14⟩ := P0.thaw
      go_wp2_with fail
      refine (walkVec _ _ _ _).mono ?_; rintro e V1 ⟨rfl, q1⟩
      clear a0 a1 a2
      clear p0 p1 p2 p3 p4 p5 p6 p7 p8 p9 p10 p11 p12 p13 p14
      clear f0 f1 f2 f3 f4 f5 f6 f7 f8 f9 f10 f11 f12 f13 f14
      replace P0 := P0.keep q1; replace A0 := A0.keep q1; replace Q0 := Q0.keep q1; replace HB := btrans HB q1
      clear q1
      obtain ⟨p0, p1, p2, p3, p4, p5, p6, p7, p8, p9, p10, p11, p12, p13, p14⟩ := P0.cells
      obtain ⟨f0, f1, f2, f3, f4, f5, f6, f7, f8, f9, f10, f11, f12, f13, f14⟩ := P0.thaw
      go_upto_region 11 with fail
      replace Q0 := Q0.fr (fr3 _ (mb + 1) 4 5 6 (.int .i64 x1) (.int .i64 y1) (.int .i64 z1)) (show ¬ (mb + 1 + 1 + 1 = mb + 1) by omega); replace P0 := P0.vel x1 y1 z1
      replace HB := below_fr HB (fr3 _ (mb + 1) 4 5 6 (.int .i64 x1) (.int .i64 y1) (.int .i64 z1)) (Nat.le_refl _) (by intro k hk; replace hk : k = mb + 1 := hk; omega)
      clear p0 p1 p2 p3 p4 p5 p6 p7 p8 p9 p10 p11 p12 p13 p14
      clear f0 f1 f2 f3 f4 f5 f6 f7 f8 f9 f10 f11 f12 f13 f14
      generalize ((V1.setCell ⟨mb + 1, 4, none⟩ (.int .i64 x1)).setCell ⟨mb + 1, 5, none⟩ (.int .i64 y1)).setCell ⟨mb + 1, 6, none⟩ (.int .i64 z1) = V2 at *
      have eq : ({ p with px := x, py := y, pz := z, vx := x1, vy := y1, vz := z1, gr := g } : Pl) = q := by rw [← HQ.out, ← hx1.out, ← hy1.out, ← hz1.out, ← HGG.out]; rfl
      replace P0 : PlAt V2 (mb + 1) q := by rw [← eq]; exact P0
      clear eq
      obtain ⟨p0, p1, p2, p3, p4, p5, p6, p7, p8, p9, p10, p11, p12, p13, p14⟩ := P0.cells
      obtain ⟨f0, f1, f2, f3, f4, f5, f6, f7, f8, f9, f10, f11, f12, f13, f14⟩ := Q0.thaw
      obtain ⟨u0, u1, u2, u3, u4, u5, u6, u7, u8, u9, u10, u11, u12, u13, u14⟩ := Q0.cells
      replace HB := below_fr HB (PlAt.allFr _ (mb + 1 + 1 + 1) q) (Nat.le_refl _) (by intro k hk; replace hk : k = mb + 1 + 1 + 1 := hk; omega)
      replace Q0 := Q0.all q
      go_wp2
      clear p0 p1 p2 p3 p4 p5 p6 p7 p8 p9 p10 p11 p12 p13 p14
      clear f0 f1 f2 f3 f4 f5 f6 f7 f8 f9 f10 f11 f12 f13 f14
      clear u0 u1 u2 u3 u4 u5 u6 u7 u8 u9 u10 u11 u12 u13 u14
      refine bodyPost_ret (v := .agg #[.int .i64 q.id, .int .i64 q.px, .int .i64 q.py, .int .i64 q.pz, .int .i64 q.vx, .int .i64 q.vy, .int .i64 q.vz, .bool q.gr, .int .i64 q.he, .int .i64 q.ar, .int .i64 q.sc, .int .i64 q.a0, .int .i64 q.a1, .int .i64 q.wa, .int .i64 q.de]) ?_ rfl ⟨rfl, HB⟩
      obtain ⟨u0, u1, u2, u3, u4, u5, u6, u7, u8, u9, u10, u11, u12, u13, u14⟩ := Q0.cells
      simp [results, Try.results27, go_sem, u0, u1, u2, u3, u4, u5, u6, u7, u8, u9, u10, u11, u12, u13, u14]
end Go.Proofs.Ytjjdclckkhddbaa
