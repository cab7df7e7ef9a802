/- Layer 11 (walk): the contract of pushed. -/
import Derived.Test.YtjjdclckkhddbaaWkA
namespace Go.Proofs.Ytjjdclckkhddbaa
open Go.RowKit
set_option linter.unusedVariables false
set_option linter.unusedSimpArgs false
attribute [local go_sem ↓] Go.wp_at_zero Go.wp_at_succ

inductive L2 (x y x1 y1 : Int) : Nat → Int → Int → Prop
  | s0 : L2 x y x1 y1 0 x y
  | s1 : L2 x y x1 y1 1 x1 y
  | s2 : L2 x y x1 y1 2 x1 y1
theorem idx2 (a b : Value) : (∀ w, (Instr.index 62 (.agg #[a, b]) (.int .i64 0)).run Try.prog w = .ok a w) ∧ (∀ w, (Instr.index 62 (.agg #[a, b]) (.int .i64 1)).run Try.prog w = .ok b w) :=
  ⟨fun _ => by kernel_rfl, fun _ => by kernel_rfl⟩
/-- What an axis becomes, in numbers of 64 bits. -/
theorem ax_wrap {v d s : Int} (hs : s = 4 ∨ s = 16) (h0 : -128 ≤ d) (h1 : d ≤ 127) (v0 : -32768 ≤ v) (v1 : v ≤ 32768) :
    IntKind.i64.wrap d = d ∧ IntKind.i64.wrap (d * 16384) = d * 16384 ∧ IntKind.i64.wrap (wnt d) = wnt d ∧ IntKind.i64.wrap (wnt d - v) = wnt d - v ∧ IntKind.i64.wrap ((wnt d - v).tdiv s) = (wnt d - v).tdiv s ∧ IntKind.i64.wrap (v + (wnt d - v).tdiv s) = v + (wnt d - v).tdiv s := by
  have h := wnt_near h0 h1
  have k := psh_near hs h0 h1 v0 v1
  unfold psh at k
  exact ⟨wrapI (by omega) (by omega), wrapI (by omega) (by omega), wrapI (by omega) (by omega), wrapI (by omega) (by omega), wrapI (by omega) (by omega), wrapI (by omega) (by omega)⟩
set_option maxHeartbeats 2000000 in
theorem walkPushed (p : Pl) (c : Cm) (hp : p.Slow) (hc : c.Wf) (w : World) : Calls Try.prog 25 #[.agg #[.int .i64 p.id, .int .i64 p.px, .int .i64 p.py, .int .i64 p.pz, .int .i64 p.vx, .int .i64 p.vy, .int .i64 p.vz, .bool p.gr, .int .i64 p.he, .int .i64 p.ar, .int .i64 p.sc, .int .i64 p.a0, .int .i64 p.a1, .int .i64 p.wa, .int .i64 p.de], .agg #[.int .u16 c.sq, .int .u8 c.bt, .int .i8 c.dx, .int .i8 c.dy, .int .i64 c.tk]] w fun e w' => e = .returned (.agg #[.int .i64 (psh p.vx c.dx (shr p c)), .int .i64 (psh p.vy c.dy (shr p c)), .int .i64 p.vz]) ∧ Below w.heap.size w w' := by
  have HPR := hid (fun V => walkPressed c hc 2 (by omega) V)
  have hs : shr p c = 4 ∨ shr p c = 16 := shr_is p c
  obtain ⟨A0, A1, A2, A3, A4, A5⟩ := ax_wrap hs hc.x0 hc.x1 hp.a0 hp.a1
  obtain ⟨B0', B1', B2', B3', B4', B5'⟩ := ax_wrap hs hc.y0 hc.y1 hp.b0 hp.b1
  have EX : psh p.vx c.dx (shr p c) = p.vx + (wnt c.dx - p.vx).tdiv (shr p c) := rfl
  have EY : psh p.vy c.dy (shr p c) = p.vy + (wnt c.dy - p.vy).tdiv (shr p c) := rfl
  have NX : (c.dx * 16384).tdiv 127 = wnt c.dx := rfl
  have NY : (c.dy * 16384).tdiv 127 = wnt c.dy := rfl
  have hsh : shr p c = if p.gr && !prs c.bt 2 then 4 else 16 := rfl
  obtain ⟨g, hg⟩ : ∃ g, p.gr = g := ⟨_, rfl⟩
  obtain ⟨b, hb⟩ : ∃ b, prs c.bt 2 = b := ⟨_, rfl⟩
  obtain ⟨x1, hx1⟩ : ∃ n, psh p.vx c.dx (shr p c) = n := ⟨_, rfl⟩
  obtain ⟨y1, hy1⟩ : ∃ n, psh p.vy c.dy (shr p c) = n := ⟨_, rfl⟩
  rw [hx1] at EX ⊢
  rw [hy1] at EY ⊢
  obtain ⟨s, hse⟩ : ∃ n, shr p c = n := ⟨_, rfl⟩
  obtain ⟨n, hn⟩ : ∃ n, wnt c.dx = n := ⟨_, rfl⟩
  obtain ⟨m, hm⟩ : ∃ n, wnt c.dy = n := ⟨_, rfl⟩
  rw [hg, hb] at hsh
  rw [hse] at hsh A4 A5 B4' B5' EX EY hs
  rw [hn] at A2 A3 A4 A5 EX NX
  rw [hm] at B2' B3' B4' B5' EY NY
  clear hx1 hy1 hse hn hm
  have HG := hid hg; have HBT := hid hb
  clear hg hb
  have P0 : PlAt (((w.alloc (.cells #[.int .i64 p.id, .int .i64 p.px, .int .i64 p.py, .int .i64 p.pz, .int .i64 p.vx, .int .i64 p.vy, .int .i64 p.vz, .bool p.gr, .int .i64 p.he, .int .i64 p.ar, .int .i64 p.sc, .int .i64 p.a0, .int .i64 p.a1, .int .i64 p.wa, .int .i64 p.de] 30)).alloc (.cells #[.int .u16 c.sq, .int .u8 c.bt, .int .i8 c.dx, .int .i8 c.dy, .int .i64 c.tk] 34)).alloc (.cells #[.int .i64 0, .int .i64 0, .int .i64 0] 49)) w.heap.size p := ((PlAt.new _ _).alloc _).alloc _
  have C0 : CmAt (((w.alloc (.cells #[.int .i64 p.id, .int .i64 p.px, .int .i64 p.py, .int .i64 p.pz, .int .i64 p.vx, .int .i64 p.vy, .int .i64 p.vz, .bool p.gr, .int .i64 p.he, .int .i64 p.ar, .int .i64 p.sc, .int .i64 p.a0, .int .i64 p.a1, .int .i64 p.wa, .int .i64 p.de] 30)).alloc (.cells #[.int .u16 c.sq, .int .u8 c.bt, .int .i8 c.dx, .int .i8 c.dy, .int .i64 c.tk] 34)).alloc (.cells #[.int .i64 0, .int .i64 0, .int .i64 0] 49)) (w.heap.size + 1) c := (CmAt.new' _ _ (by simp)).alloc _
  have Z0 : O3 (((w.alloc (.cells #[.int .i64 p.id, .int .i64 p.px, .int .i64 p.py, .int .i64 p.pz, .int .i64 p.vx, .int .i64 p.vy, .int .i64 p.vz, .bool p.gr, .int .i64 p.he, .int .i64 p.ar, .int .i64 p.sc, .int .i64 p.a0, .int .i64 p.a1, .int .i64 p.wa, .int .i64 p.de] 30)).alloc (.cells #[.int .u16 c.sq, .int .u8 c.bt, .int .i8 c.dx, .int .i8 c.dy, .int .i64 c.tk] 34)).alloc (.cells #[.int .i64 0, .int .i64 0, .int .i64 0] 49)) (w.heap.size + 1 + 1) 49 (.int .i64 0) (.int .i64 0) (.int .i64 0) := O3.new' _ _ _ _ _ (by simp)
  have HB : Below w.heap.size w (((w.alloc (.cells #[.int .i64 p.id, .int .i64 p.px, .int .i64 p.py, .int .i64 p.pz, .int .i64 p.vx, .int .i64 p.vy, .int .i64 p.vz, .bool p.gr, .int .i64 p.he, .int .i64 p.ar, .int .i64 p.sc, .int .i64 p.a0, .int .i64 p.a1, .int .i64 p.wa, .int .i64 p.de] 30)).alloc (.cells #[.int .u16 c.sq, .int .u8 c.bt, .int .i8 c.dx, .int .i8 c.dy, .int .i64 c.tk] 34)).alloc (.cells #[.int .i64 0, .int .i64 0, .int .i64 0] 49)) := (((Below.refl _ _).alloc (Nat.le_refl _) _).alloc (by simp) _).alloc (by simp; omega) _
  go_enter Try.func25, Try.ntmps25
  go_upto_region 1 with fail
  obtain ⟨mb, hmb⟩ : ∃ b, w.heap.size = b := ⟨_, rfl⟩
  have hwm : w.heap.size ≤ mb := by omega
  rw [hmb] at P0 C0 Z0
  try simp only [hmb]
  generalize (((w.alloc (.cells #[.int .i64 p.id, .int .i64 p.px, .int .i64 p.py, .int .i64 p.pz, .int .i64 p.vx, .int .i64 p.vy, .int .i64 p.vz, .bool p.gr, .int .i64 p.he, .int .i64 p.ar, .int .i64 p.sc, .int .i64 p.a0, .int .i64 p.a1, .int .i64 p.wa, .int .i64 p.de] 30)).alloc (.cells #[.int .u16 c.sq, .int .u8 c.bt, .int .i8 c.dx, .int .i8 c.dy, .int .i64 c.tk] 34)).alloc (.cells #[.int .i64 0, .int .i64 0, .int .i64 0] 49)) = V0 at *
  obtain ⟨p0, p1, p2, p3, p4, p5, p6, p7, p8, p9, p10, p11, p12, p13, p14⟩ := P0.cells
  go_wp2_with fail
  refine (walkAxesOf _ _ _ _).mono ?_; rintro e V1 ⟨rfl, q1⟩
  clear p0 p1 p2 p3 p4 p5 p6 p7 p8 p9 p10 p11 p12 p13 p14
  replace P0 := P0.keep q1; replace C0 := C0.keep q1; replace Z0 := Z0.keep q1; replace HB := btrans HB q1
  clear q1
  have hlt := Z0.lt
  go_upto_region 2 with fail
  replace P0 := P0.alloc (.cells #[.int .i64 p.vx, .int .i64 p.vy, .int .i64 p.vz] 49)
  replace C0 := C0.alloc (.cells #[.int .i64 p.vx, .int .i64 p.vy, .int .i64 p.vz] 49)
  replace Z0 := Z0.alloc (.cells #[.int .i64 p.vx, .int .i64 p.vy, .int .i64 p.vz] 49)
  have K0 := O3.new V1 49 (.int .i64 p.vx) (.int .i64 p.vy) (.int .i64 p.vz)
  replace HB := HB.alloc HB.size (.cells #[.int .i64 p.vx, .int .i64 p.vy, .int .i64 p.vz] 49)
  obtain ⟨kb, hkb⟩ : ∃ b, V1.heap.size = b := ⟨_, rfl⟩
  rw [hkb] at K0 hlt
  try simp only [hkb]
  generalize V1.alloc (.cells #[.int .i64 p.vx, .int .i64 p.vy, .int .i64 p.vz] 49) = V2 at *
  clear hkb
  go_upto_region 3 with fail
  have hfin : ∃ V3 : World, PlAt V3 mb p ∧ CmAt V3 (mb + 1) c ∧ O3 V3 (mb + 1 + 1) 49 (.int .i64 0) (.int .i64 0) (.int .i64 0) ∧ O3 V3 kb 49 (.int .i64 p.vx) (.int .i64 p.vy) (.int .i64 p.vz) ∧ Below w.heap.size w V3 := ⟨V2, P0, C0, Z0, K0, HB⟩
  clear hfin
  cases g with
  | false =>
    replace hsh : s = 16 := hsh
    subst hsh
    obtain ⟨p0, p1, p2, p3, p4, p5, p6, p7, p8, p9, p10, p11, p12, p13, p14⟩ := P0.cells
    obtain ⟨c0, c1, c2, c3, c4⟩ := C0.cells
    rw [HG.out] at p7
    go_upto_region 5 with fail
    clear p0 p1 p2 p3 p4 p5 p6 p7 p8 p9 p10 p11 p12 p13 p14
    replace EX := hid EX; replace EY := hid EY
    obtain ⟨i0, i1⟩ := idx2 (.int .i8 c.dx) (.int .i8 c.dy)
    clear HPR HG HBT
    go_wp2
    clear c0 c1 c2 c3 c4
    go_loopw [26] (fun v wr => ∃ (i : Nat) (a b : Int) (V : World), v = .int .i64 i ∧ wr = V ∧ L2 p.vx p.vy x1 y1 i a b ∧ PlAt V mb p ∧ CmAt V (mb + 1) c ∧ O3 V (mb + 1 + 1) 49 (.int .i64 0) (.int .i64 0) (.int .i64 0) ∧ O3 V kb 49 (.int .i64 a) (.int .i64 b) (.int .i64 p.vz) ∧ Below w.heap.size w V) (fun v _ => 2 - (intOf v).toNat)
    case atStart => exact ⟨0, _, _, _, rfl, rfl, .s0, P0, C0, Z0, K0, HB⟩
    case round =>
      obtain ⟨i, a, b, V, rfl, eV, hI, P, C, Z, K, B⟩ := hrel
      subst eV
      clear P0 C0 Z0 K0 HB
      cases hI with
      | s0 =>
        obtain ⟨k0, k1, k2⟩ := K.cells
        obtain ⟨t0, t1, t2⟩ := K.thaw
        go_upto_region 9 with fail
        go_region
        replace K := (K.set0 (.int .i64 x1)).keep (Below.refl _ _).drew
        replace P := (P.fr (fr1 _ kb 0 (.int .i64 x1)) (show ¬ (mb = kb) by omega)).keep (Below.refl _ _).drew
        replace C := (C.fr (fr1 _ kb 0 (.int .i64 x1)) (show ¬ (mb + 1 = kb) by omega)).keep (Below.refl _ _).drew
        replace Z := (Z.fr (fr1 _ kb 0 (.int .i64 x1)) (show ¬ (mb + 1 + 1 = kb) by omega)).keep (Below.refl _ _).drew
        replace B := (below_fr B (fr1 _ kb 0 (.int .i64 x1)) (Nat.le_refl _) (by intro k hk; replace hk : k = kb := hk; omega)).drew
        clear k0 k1 k2 t0 t1 t2
        rw [← EX.out]
        generalize (wr.setCell ⟨kb, 0, none⟩ (.int .i64 x1)).drew = V9 at *
        go_wp2
        exact ⟨⟨1, _, _, _, rfl, rfl, .s1, P, C, Z, K, B⟩, by simp [intOf]⟩
      | s1 =>
        obtain ⟨k0, k1, k2⟩ := K.cells
        obtain ⟨t0, t1, t2⟩ := K.thaw
        go_upto_region 9 with fail
        go_region
        replace K := (K.set1 (.int .i64 y1)).keep (Below.refl _ _).drew
        replace P := (P.fr (fr1 _ kb 1 (.int .i64 y1)) (show ¬ (mb = kb) by omega)).keep (Below.refl _ _).drew
        replace C := (C.fr (fr1 _ kb 1 (.int .i64 y1)) (show ¬ (mb + 1 = kb) by omega)).keep (Below.refl _ _).drew
        replace Z := (Z.fr (fr1 _ kb 1 (.int .i64 y1)) (show ¬ (mb + 1 + 1 = kb) by omega)).keep (Below.refl _ _).drew
        replace B := (below_fr B (fr1 _ kb 1 (.int .i64 y1)) (Nat.le_refl _) (by intro k hk; replace hk : k = kb := hk; omega)).drew
        clear k0 k1 k2 t0 t1 t2
        rw [← EY.out]
        generalize (wr.setCell ⟨kb, 1, none⟩ (.int .i64 y1)).drew = V9 at *
        go_wp2
        exact ⟨⟨2, _, _, _, rfl, rfl, .s2, P, C, Z, K, B⟩, by simp [intOf]⟩
      | s2 =>
        obtain ⟨k0, k1, k2⟩ := K.cells
        obtain ⟨t0, t1, t2⟩ := Z.thaw
        obtain ⟨y0, y1', y2⟩ := Z.cells
        go_wp2
        clear y0 y1' y2
        refine bodyPost_ret (v := .agg #[.int .i64 x1, .int .i64 y1, .int .i64 p.vz]) ?_ rfl ⟨rfl, below_set3 B (show w.heap.size ≤ mb + 1 + 1 by omega) (.int .i64 x1) (.int .i64 y1) (.int .i64 p.vz)⟩
        obtain ⟨z0, z1, z2⟩ := (Z.set (.int .i64 x1) (.int .i64 y1) (.int .i64 p.vz)).cells
        simp [results, Try.results25, go_sem, z0, z1, z2]
  | true =>
    obtain ⟨p0, p1, p2, p3, p4, p5, p6, p7, p8, p9, p10, p11, p12, p13, p14⟩ := P0.cells
    obtain ⟨c0, c1, c2, c3, c4⟩ := C0.cells
    rw [HG.out] at p7
    go_wp2_with fail
    refine (HPR.out _).mono ?_; rintro e V3 ⟨rfl, q1⟩
    rw [show prs c.bt ((2 : Nat) : Int) = b from HBT.out]
    clear p0 p1 p2 p3 p4 p5 p6 p7 p8 p9 p10 p11 p12 p13 p14 c0 c1 c2 c3 c4
    replace P0 := P0.keep q1; replace C0 := C0.keep q1; replace Z0 := Z0.keep q1; replace K0 := K0.keep q1; replace HB := btrans HB q1
    clear q1
    obtain ⟨c0, c1, c2, c3, c4⟩ := C0.cells
    cases b with
    | false =>
      replace hsh : s = 4 := hsh
      subst hsh
      go_upto_region 5 with fail
      replace EX := hid EX; replace EY := hid EY
      obtain ⟨i0, i1⟩ := idx2 (.int .i8 c.dx) (.int .i8 c.dy)
      clear HPR HG HBT
      go_wp2
      clear c0 c1 c2 c3 c4
      go_loopw [26] (fun v wr => ∃ (i : Nat) (a b : Int) (V : World), v = .int .i64 i ∧ wr = V ∧ L2 p.vx p.vy x1 y1 i a b ∧ PlAt V mb p ∧ CmAt V (mb + 1) c ∧ O3 V (mb + 1 + 1) 49 (.int .i64 0) (.int .i64 0) (.int .i64 0) ∧ O3 V kb 49 (.int .i64 a) (.int .i64 b) (.int .i64 p.vz) ∧ Below w.heap.size w V) (fun v _ => 2 - (intOf v).toNat)
      case atStart => exact ⟨0, _, _, _, rfl, rfl, .s0, P0, C0, Z0, K0, HB⟩
      case round =>
        obtain ⟨i, a, b, V, rfl, eV, hI, P, C, Z, K, B⟩ := hrel
        subst eV
        clear P0 C0 Z0 K0 HB
        cases hI with
        | s0 =>
          obtain ⟨k0, k1, k2⟩ := K.cells
          obtain ⟨t0, t1, t2⟩ := K.thaw
          go_upto_region 9 with fail
          go_region
          replace K := (K.set0 (.int .i64 x1)).keep (Below.refl _ _).drew
          replace P := (P.fr (fr1 _ kb 0 (.int .i64 x1)) (show ¬ (mb = kb) by omega)).keep (Below.refl _ _).drew
          replace C := (C.fr (fr1 _ kb 0 (.int .i64 x1)) (show ¬ (mb + 1 = kb) by omega)).keep (Below.refl _ _).drew
          replace Z := (Z.fr (fr1 _ kb 0 (.int .i64 x1)) (show ¬ (mb + 1 + 1 = kb) by omega)).keep (Below.refl _ _).drew
          replace B := (below_fr B (fr1 _ kb 0 (.int .i64 x1)) (Nat.le_refl _) (by intro k hk; replace hk : k = kb := hk; omega)).drew
          clear k0 k1 k2 t0 t1 t2
          rw [← EX.out]
          generalize (wr.setCell ⟨kb, 0, none⟩ (.int .i64 x1)).drew = V9 at *
          go_wp2
          exact ⟨⟨1, _, _, _, rfl, rfl, .s1, P, C, Z, K, B⟩, by simp [intOf]⟩
        | s1 =>
          obtain ⟨k0, k1, k2⟩ := K.cells
          obtain ⟨t0, t1, t2⟩ := K.thaw
          go_upto_region 9 with fail
          go_region
          replace K := (K.set1 (.int .i64 y1)).keep (Below.refl _ _).drew
          replace P := (P.fr (fr1 _ kb 1 (.int .i64 y1)) (show ¬ (mb = kb) by omega)).keep (Below.refl _ _).drew
          replace C := (C.fr (fr1 _ kb 1 (.int .i64 y1)) (show ¬ (mb + 1 = kb) by omega)).keep (Below.refl _ _).drew
          replace Z := (Z.fr (fr1 _ kb 1 (.int .i64 y1)) (show ¬ (mb + 1 + 1 = kb) by omega)).keep (Below.refl _ _).drew
          replace B := (below_fr B (fr1 _ kb 1 (.int .i64 y1)) (Nat.le_refl _) (by intro k hk; replace hk : k = kb := hk; omega)).drew
          clear k0 k1 k2 t0 t1 t2
          rw [← EY.out]
          generalize (wr.setCell ⟨kb, 1, none⟩ (.int .i64 y1)).drew = V9 at *
          go_wp2
          exact ⟨⟨2, _, _, _, rfl, rfl, .s2, P, C, Z, K, B⟩, by simp [intOf]⟩
        | s2 =>
          obtain ⟨k0, k1, k2⟩ := K.cells
          obtain ⟨t0, t1, t2⟩ := Z.thaw
          obtain ⟨y0, y1', y2⟩ := Z.cells
          go_wp2
          clear y0 y1' y2
          refine bodyPost_ret (v := .agg #[.int .i64 x1, .int .i64 y1, .int .i64 p.vz]) ?_ rfl ⟨rfl, below_set3 B (show w.heap.size ≤ mb + 1 + 1 by omega) (.int .i64 x1) (.int .i64 y1) (.int .i64 p.vz)⟩
          obtain ⟨z0, z1, z2⟩ := (Z.set (.int .i64 x1) (.int .i64 y1) (.int .i64 p.vz)).cells
          simp [results, Try.results25, go_sem, z0, z1, z2]
    | true =>
      replace hsh : s = 16 := hsh
      subst hsh
      go_upto_region 5 with fail
      replace EX := hid EX; replace EY := hid EY
      obtain ⟨i0, i1⟩ := idx2 (.int .i8 c.dx) (.int .i8 c.dy)
      clear HPR HG HBT
      go_wp2
      clear c0 c1 c2 c3 c4
      go_loopw [26] (fun v wr => ∃ (i : Nat) (a b : Int) (V : World), v = .int .i64 i ∧ wr = V ∧ L2 p.vx p.vy x1 y1 i a b ∧ PlAt V mb p ∧ CmAt V (mb + 1) c ∧ O3 V (mb + 1 + 1) 49 (.int .i64 0) (.int .i64 0) (.int .i64 0) ∧ O3 V kb 49 (.int .i64 a) (.int .i64 b) (.int .i64 p.vz) ∧ Below w.heap.size w V) (fun v _ => 2 - (intOf v).toNat)
      case atStart => exact ⟨0, _, _, _, rfl, rfl, .s0, P0, C0, Z0, K0, HB⟩
      case round =>
        obtain ⟨i, a, b, V, rfl, eV, hI, P, C, Z, K, B⟩ := hrel
        subst eV
        clear P0 C0 Z0 K0 HB
        cases hI with
        | s0 =>
          obtain ⟨k0, k1, k2⟩ := K.cells
          obtain ⟨t0, t1, t2⟩ := K.thaw
          go_upto_region 9 with fail
          go_region
          replace K := (K.set0 (.int .i64 x1)).keep (Below.refl _ _).drew
          replace P := (P.fr (fr1 _ kb 0 (.int .i64 x1)) (show ¬ (mb = kb) by omega)).keep (Below.refl _ _).drew
          replace C := (C.fr (fr1 _ kb 0 (.int .i64 x1)) (show ¬ (mb + 1 = kb) by omega)).keep (Below.refl _ _).drew
          replace Z := (Z.fr (fr1 _ kb 0 (.int .i64 x1)) (show ¬ (mb + 1 + 1 = kb) by omega)).keep (Below.refl _ _).drew
          replace B := (below_fr B (fr1 _ kb 0 (.int .i64 x1)) (Nat.le_refl _) (by intro k hk; replace hk : k = kb := hk; omega)).drew
          clear k0 k1 k2 t0 t1 t2
          rw [← EX.out]
          generalize (wr.setCell ⟨kb, 0, none⟩ (.int .i64 x1)).drew = V9 at *
          go_wp2
          exact ⟨⟨1, _, _, _, rfl, rfl, .s1, P, C, Z, K, B⟩, by simp [intOf]⟩
        | s1 =>
          obtain ⟨k0, k1, k2⟩ := K.cells
          obtain ⟨t0, t1, t2⟩ := K.thaw
          go_upto_region 9 with fail
          go_region
          replace K := (K.set1 (.int .i64 y1)).keep (Below.refl _ _).drew
          replace P := (P.fr (fr1 _ kb 1 (.int .i64 y1)) (show ¬ (mb = kb) by omega)).keep (Below.refl _ _).drew
          replace C := (C.fr (fr1 _ kb 1 (.int .i64 y1)) (show ¬ (mb + 1 = kb) by omega)).keep (Below.refl _ _).drew
          replace Z := (Z.fr (fr1 _ kb 1 (.int .i64 y1)) (show ¬ (mb + 1 + 1 = kb) by omega)).keep (Below.refl _ _).drew
          replace B := (below_fr B (fr1 _ kb 1 (.int .i64 y1)) (Nat.le_refl _) (by intro k hk; replace hk : k = kb := hk; omega)).drew
          clear k0 k1 k2 t0 t1 t2
          rw [← EY.out]
          generalize (wr.setCell ⟨kb, 1, none⟩ (.int .i64 y1)).drew = V9 at *
          go_wp2
          exact ⟨⟨2, _, _, _, rfl, rfl, .s2, P, C, Z, K, B⟩, by simp [intOf]⟩
        | s2 =>
          obtain ⟨k0, k1, k2⟩ := K.cells
          obtain ⟨t0, t1, t2⟩ := Z.thaw
          obtain ⟨y0, y1', y2⟩ := Z.cells
          go_wp2
          clear y0 y1' y2
          refine bodyPost_ret (v := .agg #[.int .i64 x1, .int .i64 y1, .int .i64 p.vz]) ?_ rfl ⟨rfl, below_set3 B (show w.heap.size ≤ mb + 1 + 1 by omega) (.int .i64 x1) (.int .i64 y1) (.int .i64 p.vz)⟩
          obtain ⟨z0, z1, z2⟩ := (Z.set (.int .i64 x1) (.int .i64 y1) (.int .i64 p.vz)).cells
          simp [results, Try.results25, go_sem, z0, z1, z2]
end Go.Proofs.Ytjjdclckkhddbaa
