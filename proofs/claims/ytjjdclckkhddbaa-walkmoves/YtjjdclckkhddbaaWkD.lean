/- Layer 11 (walk): the contracts of Tick, Step and Right. -/
import Derived.Test.YtjjdclckkhddbaaWkB
import Derived.Test.YtjjdclckkhddbaaWkC
namespace Go.Proofs.Ytjjdclckkhddbaa
open Go.RowKit
set_option linter.unusedVariables false
set_option linter.unusedSimpArgs false
attribute [local go_sem ↓] Go.wp_at_zero Go.wp_at_succ

theorem idx3i (a b c : Value) : (∀ w, (Instr.index 49 (.agg #[a, b, c]) (.int .i64 0)).run Try.prog w = .ok a w) ∧ (∀ w, (Instr.index 49 (.agg #[a, b, c]) (.int .i64 1)).run Try.prog w = .ok b w) ∧ (∀ w, (Instr.index 49 (.agg #[a, b, c]) (.int .i64 2)).run Try.prog w = .ok c w) :=
  ⟨fun _ => by kernel_rfl, fun _ => by kernel_rfl, fun _ => by kernel_rfl⟩
/-- An axis cut. -/
theorem cut_is (n : Int) : ∃ k m : Int, (∀ ts t W, (Builtin.min_ ts t #[.int .i64 n, .int .i64 32768]).run Try.prog W = .ok (.int .i64 k) W) ∧ (∀ ts t W, (Builtin.max_ ts t #[.int .i64 (-32768), .int .i64 k]).run Try.prog W = .ok (.int .i64 m) W) ∧ ct n = m :=
  ⟨_, _, min_is' n 32768, max_is' (-32768) (min n 32768), rfl⟩
set_option maxHeartbeats 4000000 in
theorem walkTick (W D H : Int) (mp : Option Addr) (mn mc : Nat) (mf : Nat → Bool) (sp : Option Addr) (sn sc : Nat) (R : Int → Int → Int → Bool) (hR : ∀ x y z, R x y z = true ↔ (mpOf W D H mn mf).Room x y z) (p : Pl) (hpw : p.Wf) (hp : p.Slow) (c : Cm) (hc : c.Wf) (q : Pl) (hq : tick R p c = q) (w : World) (hm : Arg w mp mn mc fun i => .bool (mf i)) :
    Calls Try.prog 13 #[.agg #[.int .i64 W, .int .i64 D, .int .i64 H, .slice mp mn mc, .slice sp sn sc], .agg #[.int .i64 p.id, .int .i64 p.px, .int .i64 p.py, .int .i64 p.pz, .int .i64 p.vx, .int .i64 p.vy, .int .i64 p.vz, .bool p.gr, .int .i64 p.he, .int .i64 p.ar, .int .i64 p.sc, .int .i64 p.a0, .int .i64 p.a1, .int .i64 p.wa, .int .i64 p.de], .agg #[.int .u16 c.sq, .int .u8 c.bt, .int .i8 c.dx, .int .i8 c.dy, .int .i64 c.tk]] w fun e w' => e = .returned (.agg #[.int .i64 q.id, .int .i64 q.px, .int .i64 q.py, .int .i64 q.pz, .int .i64 q.vx, .int .i64 q.vy, .int .i64 q.vz, .bool q.gr, .int .i64 q.he, .int .i64 q.ar, .int .i64 q.sc, .int .i64 q.a0, .int .i64 q.a1, .int .i64 q.wa, .int .i64 q.de]) ∧ Below w.heap.size w w' := by
  have HPR := hid (fun V => walkPressed c hc 1 (by omega) V)
  have HPU := hid (fun V => walkPushed p c hp hc V)
  have HMV := hid (fun q hq V (hV : Below w.heap.size w V) => walkMoved W D H mp mn mc mf sp sn sc R hR p hpw.x hpw.y hpw.z (vlx p c) (vly p c) (vlz p c) (ct_near _) (ct_near _) (ct_near _) q hq V (hm.keep hV))
  have hln := lp_near hp c
  have HQ := hid hq
  clear hm hq hR
  have O : O5 ((((w.alloc (.cells #[.int .i64 W, .int .i64 D, .int .i64 H, .slice mp mn mc, .slice sp sn sc] 25)).alloc (.cells #[.int .i64 p.id, .int .i64 p.px, .int .i64 p.py, .int .i64 p.pz, .int .i64 p.vx, .int .i64 p.vy, .int .i64 p.vz, .bool p.gr, .int .i64 p.he, .int .i64 p.ar, .int .i64 p.sc, .int .i64 p.a0, .int .i64 p.a1, .int .i64 p.wa, .int .i64 p.de] 30)).alloc (.cells #[.int .u16 c.sq, .int .u8 c.bt, .int .i8 c.dx, .int .i8 c.dy, .int .i64 c.tk] 34)).alloc (.cells #[.int .i64 0, .int .i64 0, .int .i64 0, .int .i64 0, .int .i64 0, .int .i64 0, .int .i64 0, .bool false, .int .i64 0, .int .i64 0, .int .i64 0, .int .i64 0, .int .i64 0, .int .i64 0, .int .i64 0] 30)) (w.heap.size) (.int .i64 W) (.int .i64 D) (.int .i64 H) (.slice mp mn mc) (.slice sp sn sc) := (((O5.new _ _ _ _ _ _).alloc _).alloc _).alloc _
  have P : PlAt ((((w.alloc (.cells #[.int .i64 W, .int .i64 D, .int .i64 H, .slice mp mn mc, .slice sp sn sc] 25)).alloc (.cells #[.int .i64 p.id, .int .i64 p.px, .int .i64 p.py, .int .i64 p.pz, .int .i64 p.vx, .int .i64 p.vy, .int .i64 p.vz, .bool p.gr, .int .i64 p.he, .int .i64 p.ar, .int .i64 p.sc, .int .i64 p.a0, .int .i64 p.a1, .int .i64 p.wa, .int .i64 p.de] 30)).alloc (.cells #[.int .u16 c.sq, .int .u8 c.bt, .int .i8 c.dx, .int .i8 c.dy, .int .i64 c.tk] 34)).alloc (.cells #[.int .i64 0, .int .i64 0, .int .i64 0, .int .i64 0, .int .i64 0, .int .i64 0, .int .i64 0, .bool false, .int .i64 0, .int .i64 0, .int .i64 0, .int .i64 0, .int .i64 0, .int .i64 0, .int .i64 0] 30)) (w.heap.size + 1) p := ((PlAt.new' _ _ (by simp)).alloc _).alloc _
  have C : CmAt ((((w.alloc (.cells #[.int .i64 W, .int .i64 D, .int .i64 H, .slice mp mn mc, .slice sp sn sc] 25)).alloc (.cells #[.int .i64 p.id, .int .i64 p.px, .int .i64 p.py, .int .i64 p.pz, .int .i64 p.vx, .int .i64 p.vy, .int .i64 p.vz, .bool p.gr, .int .i64 p.he, .int .i64 p.ar, .int .i64 p.sc, .int .i64 p.a0, .int .i64 p.a1, .int .i64 p.wa, .int .i64 p.de] 30)).alloc (.cells #[.int .u16 c.sq, .int .u8 c.bt, .int .i8 c.dx, .int .i8 c.dy, .int .i64 c.tk] 34)).alloc (.cells #[.int .i64 0, .int .i64 0, .int .i64 0, .int .i64 0, .int .i64 0, .int .i64 0, .int .i64 0, .bool false, .int .i64 0, .int .i64 0, .int .i64 0, .int .i64 0, .int .i64 0, .int .i64 0, .int .i64 0] 30)) (w.heap.size + 1 + 1) c := (CmAt.new' _ _ (by simp)).alloc _
  have Q : PlAt ((((w.alloc (.cells #[.int .i64 W, .int .i64 D, .int .i64 H, .slice mp mn mc, .slice sp sn sc] 25)).alloc (.cells #[.int .i64 p.id, .int .i64 p.px, .int .i64 p.py, .int .i64 p.pz, .int .i64 p.vx, .int .i64 p.vy, .int .i64 p.vz, .bool p.gr, .int .i64 p.he, .int .i64 p.ar, .int .i64 p.sc, .int .i64 p.a0, .int .i64 p.a1, .int .i64 p.wa, .int .i64 p.de] 30)).alloc (.cells #[.int .u16 c.sq, .int .u8 c.bt, .int .i8 c.dx, .int .i8 c.dy, .int .i64 c.tk] 34)).alloc (.cells #[.int .i64 0, .int .i64 0, .int .i64 0, .int .i64 0, .int .i64 0, .int .i64 0, .int .i64 0, .bool false, .int .i64 0, .int .i64 0, .int .i64 0, .int .i64 0, .int .i64 0, .int .i64 0, .int .i64 0] 30)) (w.heap.size + 1 + 1 + 1) noPl := PlAt.new' _ noPl (by simp)
  have HB : Below w.heap.size w ((((w.alloc (.cells #[.int .i64 W, .int .i64 D, .int .i64 H, .slice mp mn mc, .slice sp sn sc] 25)).alloc (.cells #[.int .i64 p.id, .int .i64 p.px, .int .i64 p.py, .int .i64 p.pz, .int .i64 p.vx, .int .i64 p.vy, .int .i64 p.vz, .bool p.gr, .int .i64 p.he, .int .i64 p.ar, .int .i64 p.sc, .int .i64 p.a0, .int .i64 p.a1, .int .i64 p.wa, .int .i64 p.de] 30)).alloc (.cells #[.int .u16 c.sq, .int .u8 c.bt, .int .i8 c.dx, .int .i8 c.dy, .int .i64 c.tk] 34)).alloc (.cells #[.int .i64 0, .int .i64 0, .int .i64 0, .int .i64 0, .int .i64 0, .int .i64 0, .int .i64 0, .bool false, .int .i64 0, .int .i64 0, .int .i64 0, .int .i64 0, .int .i64 0, .int .i64 0, .int .i64 0] 30)) := ((((Below.refl _ _).alloc (Nat.le_refl _) _).alloc (by simp) _).alloc (by simp; omega) _).alloc (by simp; omega) _
  go_enter Try.func13, Try.ntmps13
  go_upto_region 1 with fail
  obtain ⟨mb, hmb⟩ : ∃ b, w.heap.size = b := ⟨_, rfl⟩
  have hwm : w.heap.size ≤ mb := by omega
  rw [hmb] at O P C Q
  try simp only [hmb]
  generalize ((((w.alloc (.cells #[.int .i64 W, .int .i64 D, .int .i64 H, .slice mp mn mc, .slice sp sn sc] 25)).alloc (.cells #[.int .i64 p.id, .int .i64 p.px, .int .i64 p.py, .int .i64 p.pz, .int .i64 p.vx, .int .i64 p.vy, .int .i64 p.vz, .bool p.gr, .int .i64 p.he, .int .i64 p.ar, .int .i64 p.sc, .int .i64 p.a0, .int .i64 p.a1, .int .i64 p.wa, .int .i64 p.de] 30)).alloc (.cells #[.int .u16 c.sq, .int .u8 c.bt, .int .i8 c.dx, .int .i8 c.dy, .int .i64 c.tk] 34)).alloc (.cells #[.int .i64 0, .int .i64 0, .int .i64 0, .int .i64 0, .int .i64 0, .int .i64 0, .int .i64 0, .bool false, .int .i64 0, .int .i64 0, .int .i64 0, .int .i64 0, .int .i64 0, .int .i64 0, .int .i64 0] 30)) = V0 at *
  clear hmb
  by_cases hd : p.de > 0
  · skip
    obtain rfl : p = q := (tick_dead hd).symm.trans HQ.out
    have hd0 : 0 < p.de := hd
    obtain ⟨cP0, cP1, cP2, cP3, cP4, cP5, cP6, cP7, cP8, cP9, cP10, cP11, cP12, cP13, cP14⟩ := P.cells
    obtain ⟨cQ0, cQ1, cQ2, cQ3, cQ4, cQ5, cQ6, cQ7, cQ8, cQ9, cQ10, cQ11, cQ12, cQ13, cQ14⟩ := Q.cells
    obtain ⟨tQ0, tQ1, tQ2, tQ3, tQ4, tQ5, tQ6, tQ7, tQ8, tQ9, tQ10, tQ11, tQ12, tQ13, tQ14⟩ := Q.thaw
    go_wp2
    clear cP0 cP1 cP2 cP3 cP4 cP5 cP6 cP7 cP8 cP9 cP10 cP11 cP12 cP13 cP14 cQ0 cQ1 cQ2 cQ3 cQ4 cQ5 cQ6 cQ7 cQ8 cQ9 cQ10 cQ11 cQ12 cQ13 cQ14 tQ0 tQ1 tQ2 tQ3 tQ4 tQ5 tQ6 tQ7 tQ8 tQ9 tQ10 tQ11 tQ12 tQ13 tQ14
    replace HB := below_fr HB (PlAt.allFr _ (mb + 1 + 1 + 1) p) (Nat.le_refl _) (by intro k hk; replace hk : k = mb + 1 + 1 + 1 := hk; omega)
    replace Q := Q.all p
    refine bodyPost_ret (v := .agg #[.int .i64 p.id, .int .i64 p.px, .int .i64 p.py, .int .i64 p.pz, .int .i64 p.vx, .int .i64 p.vy, .int .i64 p.vz, .bool p.gr, .int .i64 p.he, .int .i64 p.ar, .int .i64 p.sc, .int .i64 p.a0, .int .i64 p.a1, .int .i64 p.wa, .int .i64 p.de]) ?_ rfl ⟨rfl, HB⟩
    obtain ⟨cQ0, cQ1, cQ2, cQ3, cQ4, cQ5, cQ6, cQ7, cQ8, cQ9, cQ10, cQ11, cQ12, cQ13, cQ14⟩ := Q.cells
    simp [results, Try.results13, go_sem, cQ0, cQ1, cQ2, cQ3, cQ4, cQ5, cQ6, cQ7, cQ8, cQ9, cQ10, cQ11, cQ12, cQ13, cQ14]
  · skip
    have hd0 : ¬ 0 < p.de := hd
    replace HQ := hid ((tick_alive hd).symm.trans HQ.out)
    obtain ⟨cP0, cP1, cP2, cP3, cP4, cP5, cP6, cP7, cP8, cP9, cP10, cP11, cP12, cP13, cP14⟩ := P.cells
    obtain ⟨cC0, cC1, cC2, cC3, cC4⟩ := C.cells
    go_wp2_with fail
    refine (HPU.out _).mono ?_; rintro e V1 ⟨rfl, bq⟩
    clear cP0 cP1 cP2 cP3 cP4 cP5 cP6 cP7 cP8 cP9 cP10 cP11 cP12 cP13 cP14 cC0 cC1 cC2 cC3 cC4
    replace O := O.keep bq; replace P := P.keep bq; replace C := C.keep bq; replace Q := Q.keep bq; replace HB := btrans HB bq
    clear bq
    obtain ⟨x0, hx0⟩ : ∃ n, psh p.vx c.dx (shr p c) = n := ⟨_, rfl⟩
    obtain ⟨y0, hy0⟩ : ∃ n, psh p.vy c.dy (shr p c) = n := ⟨_, rfl⟩
    rw [hx0, hy0]
    replace hx0 := hid hx0; replace hy0 := hid hy0
    go_upto_region 4 with fail
    have lQ := Q.lt
    replace O := O.alloc (.cells #[.int .i64 x0, .int .i64 y0, .int .i64 p.vz] 49)
    replace P := P.alloc (.cells #[.int .i64 x0, .int .i64 y0, .int .i64 p.vz] 49)
    replace C := C.alloc (.cells #[.int .i64 x0, .int .i64 y0, .int .i64 p.vz] 49)
    replace Q := Q.alloc (.cells #[.int .i64 x0, .int .i64 y0, .int .i64 p.vz] 49)
    replace HB := HB.alloc HB.size (.cells #[.int .i64 x0, .int .i64 y0, .int .i64 p.vz] 49)
    have K := O3.new V1 49 (.int .i64 x0) (.int .i64 y0) (.int .i64 p.vz)
    obtain ⟨kb, hkb⟩ : ∃ b, V1.heap.size = b := ⟨_, rfl⟩
    rw [hkb] at K lQ
    try simp only [hkb]
    generalize V1.alloc (.cells #[.int .i64 x0, .int .i64 y0, .int .i64 p.vz] 49) = V2 at *
    clear hkb
    obtain ⟨g, hg⟩ : ∃ g, p.gr = g := ⟨_, rfl⟩
    obtain ⟨b, hb⟩ : ∃ b, prs c.bt 1 = b := ⟨_, rfl⟩
    obtain ⟨j, hj⟩ : ∃ j, (g && b) = j := ⟨_, rfl⟩
    have hz1 : lp p c = if j then 24576 else p.vz := by rw [← hj, ← hg, ← hb]; rfl
    replace hg := hid hg; replace hb := hid hb
    go_cut [22] from 17 to 21 (fun v wx => v = .bool j ∧ ∃ V : World, wx = V ∧ O5 V mb (.int .i64 W) (.int .i64 D) (.int .i64 H) (.slice mp mn mc) (.slice sp sn sc) ∧ PlAt V (mb + 1) p ∧ CmAt V (mb + 1 + 1) c ∧ PlAt V (mb + 1 + 1 + 1) noPl ∧ O3 V kb 49 (.int .i64 x0) (.int .i64 y0) (.int .i64 p.vz) ∧ Below w.heap.size w V)
    case first =>
      clear HQ HMV hx0 hy0
      cases g with
      | false =>
        replace hj : false = j := hj
        subst hj
        obtain ⟨cP0, cP1, cP2, cP3, cP4, cP5, cP6, cP7, cP8, cP9, cP10, cP11, cP12, cP13, cP14⟩ := P.cells
        rw [hg.out] at cP7
        go_wp2
        go_meet
        exact ⟨rfl, _, rfl, O, P, C, Q, K, HB⟩
      | true =>
        replace hj : b = j := hj
        subst hj
        obtain ⟨cP0, cP1, cP2, cP3, cP4, cP5, cP6, cP7, cP8, cP9, cP10, cP11, cP12, cP13, cP14⟩ := P.cells
        obtain ⟨cC0, cC1, cC2, cC3, cC4⟩ := C.cells
        rw [hg.out] at cP7
        go_wp2_with fail
        refine (HPR.out _).mono ?_; rintro e V3 ⟨rfl, bq⟩
        clear cP0 cP1 cP2 cP3 cP4 cP5 cP6 cP7 cP8 cP9 cP10 cP11 cP12 cP13 cP14 cC0 cC1 cC2 cC3 cC4
        replace O := O.keep bq; replace P := P.keep bq; replace C := C.keep bq; replace Q := Q.keep bq; replace K := K.keep bq; replace HB := btrans HB bq
        clear bq
        rw [show prs c.bt ((1 : Nat) : Int) = b from hb.out]
        go_wp2
        go_meet
        exact ⟨rfl, _, rfl, O, P, C, Q, K, HB⟩
    case rest =>
    clear O P C Q K HB HPR hg hb hj
    obtain ⟨rfl, U3, eU, O, P, C, Q, K, HB⟩ := hcut
    replace eU := eU.symm
    subst eU
    obtain ⟨z0, hz0⟩ : ∃ n, lp p c = n := ⟨_, rfl⟩
    rw [hz0] at hln hz1
    replace hz0 := hid hz0
    cases j with
    | false =>
      replace hz1 : z0 = p.vz := hz1
      rw [← hz1] at K
      clear hz1
      have ew : IntKind.i64.wrap (z0 - 1024) = z0 - 1024 := wrapI (by omega) (by omega)
      obtain ⟨z9, hz9⟩ : ∃ n, z0 - 1024 = n := ⟨_, rfl⟩
      rw [hz9] at ew
      obtain ⟨cK0, cK1, cK2⟩ := K.cells
      obtain ⟨tK0, tK1, tK2⟩ := K.thaw
      go_upto_region 7 with fail
      clear cK0 cK1 cK2 tK0 tK1 tK2
      replace O := O.fr (fr1 _ kb 2 (.int .i64 z9)) (show ¬ (mb = kb) by omega)
      replace P := P.fr (fr1 _ kb 2 (.int .i64 z9)) (show ¬ (mb + 1 = kb) by omega)
      replace C := C.fr (fr1 _ kb 2 (.int .i64 z9)) (show ¬ (mb + 1 + 1 = kb) by omega)
      replace Q := Q.fr (fr1 _ kb 2 (.int .i64 z9)) (show ¬ (mb + 1 + 1 + 1 = kb) by omega)
      replace K := K.set2 (.int .i64 z9)
      replace HB := below_fr HB (fr1 _ kb 2 (.int .i64 z9)) (Nat.le_refl _) (by intro k hk; replace hk : k = kb := hk; omega)
      generalize U3.setCell ⟨kb, 2, none⟩ (.int .i64 z9) = U4 at *
      replace hz9 := hid hz9
      obtain ⟨i0, i1, i2⟩ := idx3i (.int .i64 x0) (.int .i64 y0) (.int .i64 z9)
      obtain ⟨kx, x1, nmix, nmax, hcx⟩ := cut_is x0
      replace hcx := hid hcx
      obtain ⟨ky, y1, nmiy, nmay, hcy⟩ := cut_is y0
      replace hcy := hid hcy
      obtain ⟨kz, z1, nmiz, nmaz, hcz⟩ := cut_is z9
      replace hcz := hid hcz
      obtain ⟨cK0, cK1, cK2⟩ := K.cells
      go_wp2
      clear cK0 cK1 cK2
      go_loopw [29] (fun v wr => ∃ (i : Nat) (d1 d2 d3 : Int) (V : World), v = .int .i64 i ∧ wr = V ∧ L3 x0 y0 z9 x1 y1 z1 i d1 d2 d3 ∧ O5 V mb (.int .i64 W) (.int .i64 D) (.int .i64 H) (.slice mp mn mc) (.slice sp sn sc) ∧ PlAt V (mb + 1) p ∧ CmAt V (mb + 1 + 1) c ∧ PlAt V (mb + 1 + 1 + 1) noPl ∧ O3 V kb 49 (.int .i64 d1) (.int .i64 d2) (.int .i64 d3) ∧ Below w.heap.size w V) (fun v _ => 3 - (intOf v).toNat)
      case atStart => exact ⟨0, _, _, _, _, rfl, rfl, .s0, O, P, C, Q, K, HB⟩
      case round =>
        clear O P C Q K HB
        obtain ⟨i, d1, d2, d3, V, rfl, eV, hI, O, P, C, Q, K, HB⟩ := hrel
        subst eV
        cases hI with
        | s0 =>
          obtain ⟨cK0, cK1, cK2⟩ := K.cells
          obtain ⟨tK0, tK1, tK2⟩ := K.thaw
          go_wp2
          clear cK0 cK1 cK2 tK0 tK1 tK2
          replace O := O.fr (fr1 _ kb 0 (.int .i64 x1)) (show ¬ (mb = kb) by omega)
          replace P := P.fr (fr1 _ kb 0 (.int .i64 x1)) (show ¬ (mb + 1 = kb) by omega)
          replace C := C.fr (fr1 _ kb 0 (.int .i64 x1)) (show ¬ (mb + 1 + 1 = kb) by omega)
          replace Q := Q.fr (fr1 _ kb 0 (.int .i64 x1)) (show ¬ (mb + 1 + 1 + 1 = kb) by omega)
          replace K := K.set0 (.int .i64 x1)
          replace HB := below_fr HB (fr1 _ kb 0 (.int .i64 x1)) (Nat.le_refl _) (by intro k hk; replace hk : k = kb := hk; omega)
          exact ⟨⟨1, _, _, _, _, rfl, rfl, .s1, O, P, C, Q, K, HB⟩, by simp [intOf]⟩
        | s1 =>
          obtain ⟨cK0, cK1, cK2⟩ := K.cells
          obtain ⟨tK0, tK1, tK2⟩ := K.thaw
          go_wp2
          clear cK0 cK1 cK2 tK0 tK1 tK2
          replace O := O.fr (fr1 _ kb 1 (.int .i64 y1)) (show ¬ (mb = kb) by omega)
          replace P := P.fr (fr1 _ kb 1 (.int .i64 y1)) (show ¬ (mb + 1 = kb) by omega)
          replace C := C.fr (fr1 _ kb 1 (.int .i64 y1)) (show ¬ (mb + 1 + 1 = kb) by omega)
          replace Q := Q.fr (fr1 _ kb 1 (.int .i64 y1)) (show ¬ (mb + 1 + 1 + 1 = kb) by omega)
          replace K := K.set1 (.int .i64 y1)
          replace HB := below_fr HB (fr1 _ kb 1 (.int .i64 y1)) (Nat.le_refl _) (by intro k hk; replace hk : k = kb := hk; omega)
          exact ⟨⟨2, _, _, _, _, rfl, rfl, .s2, O, P, C, Q, K, HB⟩, by simp [intOf]⟩
        | s2 =>
          obtain ⟨cK0, cK1, cK2⟩ := K.cells
          obtain ⟨tK0, tK1, tK2⟩ := K.thaw
          go_wp2
          clear cK0 cK1 cK2 tK0 tK1 tK2
          replace O := O.fr (fr1 _ kb 2 (.int .i64 z1)) (show ¬ (mb = kb) by omega)
          replace P := P.fr (fr1 _ kb 2 (.int .i64 z1)) (show ¬ (mb + 1 = kb) by omega)
          replace C := C.fr (fr1 _ kb 2 (.int .i64 z1)) (show ¬ (mb + 1 + 1 = kb) by omega)
          replace Q := Q.fr (fr1 _ kb 2 (.int .i64 z1)) (show ¬ (mb + 1 + 1 + 1 = kb) by omega)
          replace K := K.set2 (.int .i64 z1)
          replace HB := below_fr HB (fr1 _ kb 2 (.int .i64 z1)) (Nat.le_refl _) (by intro k hk; replace hk : k = kb := hk; omega)
          exact ⟨⟨3, _, _, _, _, rfl, rfl, .s3, O, P, C, Q, K, HB⟩, by simp [intOf]⟩
        | s3 =>
          have ex : vlx p c = x1 := by unfold vlx; rw [hx0.out]; exact hcx.out
          have ey : vly p c = y1 := by unfold vly; rw [hy0.out]; exact hcy.out
          have ez : vlz p c = z1 := by unfold vlz; rw [hz0.out, hz9.out]; exact hcz.out
          replace HMV := fun V hV => HMV.out q HQ.out V hV
          rw [ex, ey, ez] at HMV
          replace HMV := hid HMV
          clear HQ hx0 hy0 hz0 hz9 hcx hcy hcz ex ey ez nmix nmiy nmiz nmax nmay nmaz i0 i1 i2
          obtain ⟨cO0, cO1, cO2, cO3, cO4⟩ := O.cells
          obtain ⟨cP0, cP1, cP2, cP3, cP4, cP5, cP6, cP7, cP8, cP9, cP10, cP11, cP12, cP13, cP14⟩ := P.cells
          obtain ⟨cK0, cK1, cK2⟩ := K.cells
          go_wp2_with fail
          refine (HMV.out _ HB).mono ?_; rintro e V5 ⟨rfl, bq⟩
          clear cO0 cO1 cO2 cO3 cO4 cP0 cP1 cP2 cP3 cP4 cP5 cP6 cP7 cP8 cP9 cP10 cP11 cP12 cP13 cP14 cK0 cK1 cK2
          replace O := O.keep bq; replace P := P.keep bq; replace C := C.keep bq; replace Q := Q.keep bq; replace K := K.keep bq; replace HB := btrans HB bq
          clear bq
          obtain ⟨cQ0, cQ1, cQ2, cQ3, cQ4, cQ5, cQ6, cQ7, cQ8, cQ9, cQ10, cQ11, cQ12, cQ13, cQ14⟩ := Q.cells
          obtain ⟨tQ0, tQ1, tQ2, tQ3, tQ4, tQ5, tQ6, tQ7, tQ8, tQ9, tQ10, tQ11, tQ12, tQ13, tQ14⟩ := Q.thaw
          go_wp2
          clear cQ0 cQ1 cQ2 cQ3 cQ4 cQ5 cQ6 cQ7 cQ8 cQ9 cQ10 cQ11 cQ12 cQ13 cQ14 tQ0 tQ1 tQ2 tQ3 tQ4 tQ5 tQ6 tQ7 tQ8 tQ9 tQ10 tQ11 tQ12 tQ13 tQ14
          replace HB := below_fr HB (PlAt.allFr _ (mb + 1 + 1 + 1) q) (Nat.le_refl _) (by intro k hk; replace hk : k = mb + 1 + 1 + 1 := hk; omega)
          replace Q := Q.all q
          refine bodyPost_ret (v := .agg #[.int .i64 q.id, .int .i64 q.px, .int .i64 q.py, .int .i64 q.pz, .int .i64 q.vx, .int .i64 q.vy, .int .i64 q.vz, .bool q.gr, .int .i64 q.he, .int .i64 q.ar, .int .i64 q.sc, .int .i64 q.a0, .int .i64 q.a1, .int .i64 q.wa, .int .i64 q.de]) ?_ rfl ⟨rfl, HB⟩
          obtain ⟨cQ0, cQ1, cQ2, cQ3, cQ4, cQ5, cQ6, cQ7, cQ8, cQ9, cQ10, cQ11, cQ12, cQ13, cQ14⟩ := Q.cells
          simp [results, Try.results13, go_sem, cQ0, cQ1, cQ2, cQ3, cQ4, cQ5, cQ6, cQ7, cQ8, cQ9, cQ10, cQ11, cQ12, cQ13, cQ14]
    | true =>
      replace hz1 : z0 = 24576 := hz1
      obtain ⟨cK0, cK1, cK2⟩ := K.cells
      obtain ⟨tK0, tK1, tK2⟩ := K.thaw
      go_upto_region 6 with fail
      clear cK0 cK1 cK2 tK0 tK1 tK2
      replace O := O.fr (fr1 _ kb 2 (.int .i64 24576)) (show ¬ (mb = kb) by omega)
      replace P := P.fr (fr1 _ kb 2 (.int .i64 24576)) (show ¬ (mb + 1 = kb) by omega)
      replace C := C.fr (fr1 _ kb 2 (.int .i64 24576)) (show ¬ (mb + 1 + 1 = kb) by omega)
      replace Q := Q.fr (fr1 _ kb 2 (.int .i64 24576)) (show ¬ (mb + 1 + 1 + 1 = kb) by omega)
      replace K := K.set2 (.int .i64 24576)
      replace HB := below_fr HB (fr1 _ kb 2 (.int .i64 24576)) (Nat.le_refl _) (by intro k hk; replace hk : k = kb := hk; omega)
      generalize U3.setCell ⟨kb, 2, none⟩ (.int .i64 24576) = U3 at *
      rw [← hz1] at K
      clear hz1
      have ew : IntKind.i64.wrap (z0 - 1024) = z0 - 1024 := wrapI (by omega) (by omega)
      obtain ⟨z9, hz9⟩ : ∃ n, z0 - 1024 = n := ⟨_, rfl⟩
      rw [hz9] at ew
      obtain ⟨cK0, cK1, cK2⟩ := K.cells
      obtain ⟨tK0, tK1, tK2⟩ := K.thaw
      go_upto_region 7 with fail
      clear cK0 cK1 cK2 tK0 tK1 tK2
      replace O := O.fr (fr1 _ kb 2 (.int .i64 z9)) (show ¬ (mb = kb) by omega)
      replace P := P.fr (fr1 _ kb 2 (.int .i64 z9)) (show ¬ (mb + 1 = kb) by omega)
      replace C := C.fr (fr1 _ kb 2 (.int .i64 z9)) (show ¬ (mb + 1 + 1 = kb) by omega)
      replace Q := Q.fr (fr1 _ kb 2 (.int .i64 z9)) (show ¬ (mb + 1 + 1 + 1 = kb) by omega)
      replace K := K.set2 (.int .i64 z9)
      replace HB := below_fr HB (fr1 _ kb 2 (.int .i64 z9)) (Nat.le_refl _) (by intro k hk; replace hk : k = kb := hk; omega)
      generalize U3.setCell ⟨kb, 2, none⟩ (.int .i64 z9) = U4 at *
      replace hz9 := hid hz9
      obtain ⟨i0, i1, i2⟩ := idx3i (.int .i64 x0) (.int .i64 y0) (.int .i64 z9)
      obtain ⟨kx, x1, nmix, nmax, hcx⟩ := cut_is x0
      replace hcx := hid hcx
      obtain ⟨ky, y1, nmiy, nmay, hcy⟩ := cut_is y0
      replace hcy := hid hcy
      obtain ⟨kz, z1, nmiz, nmaz, hcz⟩ := cut_is z9
      replace hcz := hid hcz
      obtain ⟨cK0, cK1, cK2⟩ := K.cells
      go_wp2
      clear cK0 cK1 cK2
      go_loopw [29] (fun v wr => ∃ (i : Nat) (d1 d2 d3 : Int) (V : World), v = .int .i64 i ∧ wr = V ∧ L3 x0 y0 z9 x1 y1 z1 i d1 d2 d3 ∧ O5 V mb (.int .i64 W) (.int .i64 D) (.int .i64 H) (.slice mp mn mc) (.slice sp sn sc) ∧ PlAt V (mb + 1) p ∧ CmAt V (mb + 1 + 1) c ∧ PlAt V (mb + 1 + 1 + 1) noPl ∧ O3 V kb 49 (.int .i64 d1) (.int .i64 d2) (.int .i64 d3) ∧ Below w.heap.size w V) (fun v _ => 3 - (intOf v).toNat)
      case atStart => exact ⟨0, _, _, _, _, rfl, rfl, .s0, O, P, C, Q, K, HB⟩
      case round =>
        clear O P C Q K HB
        obtain ⟨i, d1, d2, d3, V, rfl, eV, hI, O, P, C, Q, K, HB⟩ := hrel
        subst eV
        cases hI with
        | s0 =>
          obtain ⟨cK0, cK1, cK2⟩ := K.cells
          obtain ⟨tK0, tK1, tK2⟩ := K.thaw
          go_wp2
          clear cK0 cK1 cK2 tK0 tK1 tK2
          replace O := O.fr (fr1 _ kb 0 (.int .i64 x1)) (show ¬ (mb = kb) by omega)
          replace P := P.fr (fr1 _ kb 0 (.int .i64 x1)) (show ¬ (mb + 1 = kb) by omega)
          replace C := C.fr (fr1 _ kb 0 (.int .i64 x1)) (show ¬ (mb + 1 + 1 = kb) by omega)
          replace Q := Q.fr (fr1 _ kb 0 (.int .i64 x1)) (show ¬ (mb + 1 + 1 + 1 = kb) by omega)
          replace K := K.set0 (.int .i64 x1)
          replace HB := below_fr HB (fr1 _ kb 0 (.int .i64 x1)) (Nat.le_refl _) (by intro k hk; replace hk : k = kb := hk; omega)
          exact ⟨⟨1, _, _, _, _, rfl, rfl, .s1, O, P, C, Q, K, HB⟩, by simp [intOf]⟩
        | s1 =>
          obtain ⟨cK0, cK1, cK2⟩ := K.cells
          obtain ⟨tK0, tK1, tK2⟩ := K.thaw
          go_wp2
          clear cK0 cK1 cK2 tK0 tK1 tK2
          replace O := O.fr (fr1 _ kb 1 (.int .i64 y1)) (show ¬ (mb = kb) by omega)
          replace P := P.fr (fr1 _ kb 1 (.int .i64 y1)) (show ¬ (mb + 1 = kb) by omega)
          replace C := C.fr (fr1 _ kb 1 (.int .i64 y1)) (show ¬ (mb + 1 + 1 = kb) by omega)
          replace Q := Q.fr (fr1 _ kb 1 (.int .i64 y1)) (show ¬ (mb + 1 + 1 + 1 = kb) by omega)
          replace K := K.set1 (.int .i64 y1)
          replace HB := below_fr HB (fr1 _ kb 1 (.int .i64 y1)) (Nat.le_refl _) (by intro k hk; replace hk : k = kb := hk; omega)
          exact ⟨⟨2, _, _, _, _, rfl, rfl, .s2, O, P, C, Q, K, HB⟩, by simp [intOf]⟩
        | s2 =>
          obtain ⟨cK0, cK1, cK2⟩ := K.cells
          obtain ⟨tK0, tK1, tK2⟩ := K.thaw
          go_wp2
          clear cK0 cK1 cK2 tK0 tK1 tK2
          replace O := O.fr (fr1 _ kb 2 (.int .i64 z1)) (show ¬ (mb = kb) by omega)
          replace P := P.fr (fr1 _ kb 2 (.int .i64 z1)) (show ¬ (mb + 1 = kb) by omega)
          replace C := C.fr (fr1 _ kb 2 (.int .i64 z1)) (show ¬ (mb + 1 + 1 = kb) by omega)
          replace Q := Q.fr (fr1 _ kb 2 (.int .i64 z1)) (show ¬ (mb + 1 + 1 + 1 = kb) by omega)
          replace K := K.set2 (.int .i64 z1)
          replace HB := below_fr HB (fr1 _ kb 2 (.int .i64 z1)) (Nat.le_refl _) (by intro k hk; replace hk : k = kb := hk; omega)
          exact ⟨⟨3, _, _, _, _, rfl, rfl, .s3, O, P, C, Q, K, HB⟩, by simp [intOf]⟩
        | s3 =>
          have ex : vlx p c = x1 := by unfold vlx; rw [hx0.out]; exact hcx.out
          have ey : vly p c = y1 := by unfold vly; rw [hy0.out]; exact hcy.out
          have ez : vlz p c = z1 := by unfold vlz; rw [hz0.out, hz9.out]; exact hcz.out
          replace HMV := fun V hV => HMV.out q HQ.out V hV
          rw [ex, ey, ez] at HMV
          replace HMV := hid HMV
          clear HQ hx0 hy0 hz0 hz9 hcx hcy hcz ex ey ez nmix nmiy nmiz nmax nmay nmaz i0 i1 i2
          obtain ⟨cO0, cO1, cO2, cO3, cO4⟩ := O.cells
          obtain ⟨cP0, cP1, cP2, cP3, cP4, cP5, cP6, cP7, cP8, cP9, cP10, cP11, cP12, cP13, cP14⟩ := P.cells
          obtain ⟨cK0, cK1, cK2⟩ := K.cells
          go_wp2_with fail
          refine (HMV.out _ HB).mono ?_; rintro e V5 ⟨rfl, bq⟩
          clear cO0 cO1 cO2 cO3 cO4 cP0 cP1 cP2 cP3 cP4 cP5 cP6 cP7 cP8 cP9 cP10 cP11 cP12 cP13 cP14 cK0 cK1 cK2
          replace O := O.keep bq; replace P := P.keep bq; replace C := C.keep bq; replace Q := Q.keep bq; replace K := K.keep bq; replace HB := btrans HB bq
          clear bq
          obtain ⟨cQ0, cQ1, cQ2, cQ3, cQ4, cQ5, cQ6, cQ7, cQ8, cQ9, cQ10, cQ11, cQ12, cQ13, cQ14⟩ := Q.cells
          obtain ⟨tQ0, tQ1, tQ2, tQ3, tQ4, tQ5, tQ6, tQ7, tQ8, tQ9, tQ10, tQ11, tQ12, tQ13, tQ14⟩ := Q.thaw
          go_wp2
          clear cQ0 cQ1 cQ2 cQ3 cQ4 cQ5 cQ6 cQ7 cQ8 cQ9 cQ10 cQ11 cQ12 cQ13 cQ14 tQ0 tQ1 tQ2 tQ3 tQ4 tQ5 tQ6 tQ7 tQ8 tQ9 tQ10 tQ11 tQ12 tQ13 tQ14
          replace HB := below_fr HB (PlAt.allFr _ (mb + 1 + 1 + 1) q) (Nat.le_refl _) (by intro k hk; replace hk : k = mb + 1 + 1 + 1 := hk; omega)
          replace Q := Q.all q
          refine bodyPost_ret (v := .agg #[.int .i64 q.id, .int .i64 q.px, .int .i64 q.py, .int .i64 q.pz, .int .i64 q.vx, .int .i64 q.vy, .int .i64 q.vz, .bool q.gr, .int .i64 q.he, .int .i64 q.ar, .int .i64 q.sc, .int .i64 q.a0, .int .i64 q.a1, .int .i64 q.wa, .int .i64 q.de]) ?_ rfl ⟨rfl, HB⟩
          obtain ⟨cQ0, cQ1, cQ2, cQ3, cQ4, cQ5, cQ6, cQ7, cQ8, cQ9, cQ10, cQ11, cQ12, cQ13, cQ14⟩ := Q.cells
          simp [results, Try.results13, go_sem, cQ0, cQ1, cQ2, cQ3, cQ4, cQ5, cQ6, cQ7, cQ8, cQ9, cQ10, cQ11, cQ12, cQ13, cQ14]
end Go.Proofs.Ytjjdclckkhddbaa
