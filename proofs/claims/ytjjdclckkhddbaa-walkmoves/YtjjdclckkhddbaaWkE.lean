/- Layer 11 (walk): the contracts of Step and Right. -/
import Derived.Test.YtjjdclckkhddbaaWkD
namespace Go.Proofs.Ytjjdclckkhddbaa
open Go.RowKit
set_option linter.unusedVariables false
set_option linter.unusedSimpArgs false
attribute [local go_sem ↓] Go.wp_at_zero Go.wp_at_succ

set_option maxHeartbeats 4000000 in
theorem walkStep (W D H : Int) (mp : Option Addr) (mn mc : Nat) (mf : Nat → Bool) (sp : Option Addr) (sn sc : Nat) (R : Int → Int → Int → Bool) (hR : ∀ x y z, R x y z = true ↔ (mpOf W D H mn mf).Room x y z) (p : Pl) (hp : Rt R p) (c : Cm) (hc : c.Wf) (q : Pl) (hq : step R p c = q) (w : World) (hm : Arg w mp mn mc fun i => .bool (mf i)) :
    Calls Try.prog 15 #[.agg #[.int .i64 W, .int .i64 D, .int .i64 H, .slice mp mn mc, .slice sp sn sc], .agg #[.int .i64 p.id, .int .i64 p.px, .int .i64 p.py, .int .i64 p.pz, .int .i64 p.vx, .int .i64 p.vy, .int .i64 p.vz, .bool p.gr, .int .i64 p.he, .int .i64 p.ar, .int .i64 p.sc, .int .i64 p.a0, .int .i64 p.a1, .int .i64 p.wa, .int .i64 p.de], .agg #[.int .u16 c.sq, .int .u8 c.bt, .int .i8 c.dx, .int .i8 c.dy, .int .i64 c.tk]] w fun e w' => e = .returned (.agg #[.int .i64 q.id, .int .i64 q.px, .int .i64 q.py, .int .i64 q.pz, .int .i64 q.vx, .int .i64 q.vy, .int .i64 q.vz, .bool q.gr, .int .i64 q.he, .int .i64 q.ar, .int .i64 q.sc, .int .i64 q.a0, .int .i64 q.a1, .int .i64 q.wa, .int .i64 q.de]) ∧ Below w.heap.size w w' := by
  have HTK := hid (fun p (hp : Rt R p) q hq V (hV : Below w.heap.size w V) => walkTick W D H mp mn mc mf sp sn sc R hR p hp.w hp.s c hc q hq V (hm.keep hV))
  have HRT := hid (fun n => stepN_right hR c n hp)
  have HQ := hid hq
  clear hm hq hR
  have O : O5 ((((w.alloc (.cells #[.int .i64 W, .int .i64 D, .int .i64 H, .slice mp mn mc, .slice sp sn sc] 25)).alloc (.cells #[.int .i64 p.id, .int .i64 p.px, .int .i64 p.py, .int .i64 p.pz, .int .i64 p.vx, .int .i64 p.vy, .int .i64 p.vz, .bool p.gr, .int .i64 p.he, .int .i64 p.ar, .int .i64 p.sc, .int .i64 p.a0, .int .i64 p.a1, .int .i64 p.wa, .int .i64 p.de] 30)).alloc (.cells #[.int .u16 c.sq, .int .u8 c.bt, .int .i8 c.dx, .int .i8 c.dy, .int .i64 c.tk] 34)).alloc (.cells #[.int .i64 0, .int .i64 0, .int .i64 0, .int .i64 0, .int .i64 0, .int .i64 0, .int .i64 0, .bool false, .int .i64 0, .int .i64 0, .int .i64 0, .int .i64 0, .int .i64 0, .int .i64 0, .int .i64 0] 30)) (w.heap.size) (.int .i64 W) (.int .i64 D) (.int .i64 H) (.slice mp mn mc) (.slice sp sn sc) := (((O5.new _ _ _ _ _ _).alloc _).alloc _).alloc _
  have P : PlAt ((((w.alloc (.cells #[.int .i64 W, .int .i64 D, .int .i64 H, .slice mp mn mc, .slice sp sn sc] 25)).alloc (.cells #[.int .i64 p.id, .int .i64 p.px, .int .i64 p.py, .int .i64 p.pz, .int .i64 p.vx, .int .i64 p.vy, .int .i64 p.vz, .bool p.gr, .int .i64 p.he, .int .i64 p.ar, .int .i64 p.sc, .int .i64 p.a0, .int .i64 p.a1, .int .i64 p.wa, .int .i64 p.de] 30)).alloc (.cells #[.int .u16 c.sq, .int .u8 c.bt, .int .i8 c.dx, .int .i8 c.dy, .int .i64 c.tk] 34)).alloc (.cells #[.int .i64 0, .int .i64 0, .int .i64 0, .int .i64 0, .int .i64 0, .int .i64 0, .int .i64 0, .bool false, .int .i64 0, .int .i64 0, .int .i64 0, .int .i64 0, .int .i64 0, .int .i64 0, .int .i64 0] 30)) (w.heap.size + 1) p := ((PlAt.new' _ _ (by simp)).alloc _).alloc _
  have C : CmAt ((((w.alloc (.cells #[.int .i64 W, .int .i64 D, .int .i64 H, .slice mp mn mc, .slice sp sn sc] 25)).alloc (.cells #[.int .i64 p.id, .int .i64 p.px, .int .i64 p.py, .int .i64 p.pz, .int .i64 p.vx, .int .i64 p.vy, .int .i64 p.vz, .bool p.gr, .int .i64 p.he, .int .i64 p.ar, .int .i64 p.sc, .int .i64 p.a0, .int .i64 p.a1, .int .i64 p.wa, .int .i64 p.de] 30)).alloc (.cells #[.int .u16 c.sq, .int .u8 c.bt, .int .i8 c.dx, .int .i8 c.dy, .int .i64 c.tk] 34)).alloc (.cells #[.int .i64 0, .int .i64 0, .int .i64 0, .int .i64 0, .int .i64 0, .int .i64 0, .int .i64 0, .bool false, .int .i64 0, .int .i64 0, .int .i64 0, .int .i64 0, .int .i64 0, .int .i64 0, .int .i64 0] 30)) (w.heap.size + 1 + 1) c := (CmAt.new' _ _ (by simp)).alloc _
  have Q : PlAt ((((w.alloc (.cells #[.int .i64 W, .int .i64 D, .int .i64 H, .slice mp mn mc, .slice sp sn sc] 25)).alloc (.cells #[.int .i64 p.id, .int .i64 p.px, .int .i64 p.py, .int .i64 p.pz, .int .i64 p.vx, .int .i64 p.vy, .int .i64 p.vz, .bool p.gr, .int .i64 p.he, .int .i64 p.ar, .int .i64 p.sc, .int .i64 p.a0, .int .i64 p.a1, .int .i64 p.wa, .int .i64 p.de] 30)).alloc (.cells #[.int .u16 c.sq, .int .u8 c.bt, .int .i8 c.dx, .int .i8 c.dy, .int .i64 c.tk] 34)).alloc (.cells #[.int .i64 0, .int .i64 0, .int .i64 0, .int .i64 0, .int .i64 0, .int .i64 0, .int .i64 0, .bool false, .int .i64 0, .int .i64 0, .int .i64 0, .int .i64 0, .int .i64 0, .int .i64 0, .int .i64 0] 30)) (w.heap.size + 1 + 1 + 1) noPl := PlAt.new' _ noPl (by simp)
  have HB : Below w.heap.size w ((((w.alloc (.cells #[.int .i64 W, .int .i64 D, .int .i64 H, .slice mp mn mc, .slice sp sn sc] 25)).alloc (.cells #[.int .i64 p.id, .int .i64 p.px, .int .i64 p.py, .int .i64 p.pz, .int .i64 p.vx, .int .i64 p.vy, .int .i64 p.vz, .bool p.gr, .int .i64 p.he, .int .i64 p.ar, .int .i64 p.sc, .int .i64 p.a0, .int .i64 p.a1, .int .i64 p.wa, .int .i64 p.de] 30)).alloc (.cells #[.int .u16 c.sq, .int .u8 c.bt, .int .i8 c.dx, .int .i8 c.dy, .int .i64 c.tk] 34)).alloc (.cells #[.int .i64 0, .int .i64 0, .int .i64 0, .int .i64 0, .int .i64 0, .int .i64 0, .int .i64 0, .bool false, .int .i64 0, .int .i64 0, .int .i64 0, .int .i64 0, .int .i64 0, .int .i64 0, .int .i64 0] 30)) := ((((Below.refl _ _).alloc (Nat.le_refl _) _).alloc (by simp) _).alloc (by simp; omega) _).alloc (by simp; omega) _
  go_enter Try.func15, Try.ntmps15
  go_upto_region 1 with fail
  obtain ⟨mb, hmb⟩ : ∃ b, w.heap.size = b := ⟨_, rfl⟩
  have hwm : w.heap.size ≤ mb := by omega
  rw [hmb] at O P C Q
  try simp only [hmb]
  generalize ((((w.alloc (.cells #[.int .i64 W, .int .i64 D, .int .i64 H, .slice mp mn mc, .slice sp sn sc] 25)).alloc (.cells #[.int .i64 p.id, .int .i64 p.px, .int .i64 p.py, .int .i64 p.pz, .int .i64 p.vx, .int .i64 p.vy, .int .i64 p.vz, .bool p.gr, .int .i64 p.he, .int .i64 p.ar, .int .i64 p.sc, .int .i64 p.a0, .int .i64 p.a1, .int .i64 p.wa, .int .i64 p.de] 30)).alloc (.cells #[.int .u16 c.sq, .int .u8 c.bt, .int .i8 c.dx, .int .i8 c.dy, .int .i64 c.tk] 34)).alloc (.cells #[.int .i64 0, .int .i64 0, .int .i64 0, .int .i64 0, .int .i64 0, .int .i64 0, .int .i64 0, .bool false, .int .i64 0, .int .i64 0, .int .i64 0, .int .i64 0, .int .i64 0, .int .i64 0, .int .i64 0] 30)) = V0 at *
  clear hmb
  by_cases h8 : c.tk > 8
  · skip
    obtain rfl : p = q := (step_9 h8).symm.trans HQ.out
    have h8d : 8 < c.tk := h8
    obtain ⟨cC0, cC1, cC2, cC3, cC4⟩ := C.cells
    obtain ⟨cP0, cP1, cP2, cP3, cP4, cP5, cP6, cP7, cP8, cP9, cP10, cP11, cP12, cP13, cP14⟩ := P.cells
    obtain ⟨cQ0, cQ1, cQ2, cQ3, cQ4, cQ5, cQ6, cQ7, cQ8, cQ9, cQ10, cQ11, cQ12, cQ13, cQ14⟩ := Q.cells
    obtain ⟨tQ0, tQ1, tQ2, tQ3, tQ4, tQ5, tQ6, tQ7, tQ8, tQ9, tQ10, tQ11, tQ12, tQ13, tQ14⟩ := Q.thaw
    go_wp2
    clear cC0 cC1 cC2 cC3 cC4 cP0 cP1 cP2 cP3 cP4 cP5 cP6 cP7 cP8 cP9 cP10 cP11 cP12 cP13 cP14 cQ0 cQ1 cQ2 cQ3 cQ4 cQ5 cQ6 cQ7 cQ8 cQ9 cQ10 cQ11 cQ12 cQ13 cQ14 tQ0 tQ1 tQ2 tQ3 tQ4 tQ5 tQ6 tQ7 tQ8 tQ9 tQ10 tQ11 tQ12 tQ13 tQ14
    replace HB := below_fr HB (PlAt.allFr _ (mb + 1 + 1 + 1) p) (Nat.le_refl _) (by intro k hk; replace hk : k = mb + 1 + 1 + 1 := hk; omega)
    replace Q := Q.all p
    refine bodyPost_ret (v := .agg #[.int .i64 p.id, .int .i64 p.px, .int .i64 p.py, .int .i64 p.pz, .int .i64 p.vx, .int .i64 p.vy, .int .i64 p.vz, .bool p.gr, .int .i64 p.he, .int .i64 p.ar, .int .i64 p.sc, .int .i64 p.a0, .int .i64 p.a1, .int .i64 p.wa, .int .i64 p.de]) ?_ rfl ⟨rfl, HB⟩
    obtain ⟨cQ0, cQ1, cQ2, cQ3, cQ4, cQ5, cQ6, cQ7, cQ8, cQ9, cQ10, cQ11, cQ12, cQ13, cQ14⟩ := Q.cells
    simp [results, Try.results15, go_sem, cQ0, cQ1, cQ2, cQ3, cQ4, cQ5, cQ6, cQ7, cQ8, cQ9, cQ10, cQ11, cQ12, cQ13, cQ14]
  · skip
    have h8d : ¬ 8 < c.tk := h8
    have hqe : stepN R c c.tk.toNat p = q := (if_neg h8).symm.trans HQ.out
    obtain ⟨n, hn⟩ : ∃ n, c.tk = n := ⟨_, rfl⟩
    rw [hn] at hqe h8d
    replace hn := hid hn
    clear h8 HQ
    replace hqe := hid hqe
    obtain ⟨cC0, cC1, cC2, cC3, cC4⟩ := C.cells
    rw [hn.out] at cC4
    go_wp2
    clear cC0 cC1 cC2 cC3 cC4
    go_loopw [13] (fun v wr => ∃ (i : Nat) (r : Pl) (V : World), v = .int .i64 i ∧ wr = V ∧ Hid (stepN R c i p = r) ∧ i ≤ n.toNat ∧ O5 V mb (.int .i64 W) (.int .i64 D) (.int .i64 H) (.slice mp mn mc) (.slice sp sn sc) ∧ PlAt V (mb + 1) r ∧ CmAt V (mb + 1 + 1) c ∧ PlAt V (mb + 1 + 1 + 1) noPl ∧ Below w.heap.size w V) (fun v _ => 8 - (intOf v).toNat)
    case atStart => exact ⟨0, p, _, rfl, rfl, hid rfl, Nat.zero_le _, O, P, C, Q, HB⟩
    case round =>
      clear O P C Q HB
      obtain ⟨i, r, V, rfl, eV, hr, hi, O, P, C, Q, HB⟩ := hrel
      subst eV
      by_cases hin : (i : Int) < n
      · skip
        obtain ⟨r2, hr2⟩ : ∃ r2, tick R r c = r2 := ⟨_, rfl⟩
        replace HTK := hid (HTK.out r (hr.out ▸ HRT.out i) r2 hr2)
        replace hr2 : Hid (stepN R c (i + 1) p = r2) := hid ((stepN_succ R c i p).trans (by rw [hr.out]; exact hr2))
        clear hr HRT
        obtain ⟨cO0, cO1, cO2, cO3, cO4⟩ := O.cells
        obtain ⟨cP0, cP1, cP2, cP3, cP4, cP5, cP6, cP7, cP8, cP9, cP10, cP11, cP12, cP13, cP14⟩ := P.cells
        obtain ⟨cC0, cC1, cC2, cC3, cC4⟩ := C.cells
        go_wp2_with fail
        refine (HTK.out _ HB).mono ?_; rintro e V5 ⟨rfl, bq⟩
        clear cO0 cO1 cO2 cO3 cO4 cP0 cP1 cP2 cP3 cP4 cP5 cP6 cP7 cP8 cP9 cP10 cP11 cP12 cP13 cP14 cC0 cC1 cC2 cC3 cC4
        replace O := O.keep bq; replace P := P.keep bq; replace C := C.keep bq; replace Q := Q.keep bq; replace HB := btrans HB bq
        clear bq
        obtain ⟨cP0, cP1, cP2, cP3, cP4, cP5, cP6, cP7, cP8, cP9, cP10, cP11, cP12, cP13, cP14⟩ := P.cells
        obtain ⟨tP0, tP1, tP2, tP3, tP4, tP5, tP6, tP7, tP8, tP9, tP10, tP11, tP12, tP13, tP14⟩ := P.thaw
        go_wp2
        clear cP0 cP1 cP2 cP3 cP4 cP5 cP6 cP7 cP8 cP9 cP10 cP11 cP12 cP13 cP14 tP0 tP1 tP2 tP3 tP4 tP5 tP6 tP7 tP8 tP9 tP10 tP11 tP12 tP13 tP14
        replace O := O.fr (PlAt.allFr _ (mb + 1) r2) (show ¬ (mb = mb + 1) by omega)
        replace P := P.all r2
        replace C := C.fr (PlAt.allFr _ (mb + 1) r2) (show ¬ (mb + 1 + 1 = mb + 1) by omega)
        replace Q := Q.fr (PlAt.allFr _ (mb + 1) r2) (show ¬ (mb + 1 + 1 + 1 = mb + 1) by omega)
        replace HB := below_fr HB (PlAt.allFr _ (mb + 1) r2) (Nat.le_refl _) (by intro k hk; replace hk : k = mb + 1 := hk; omega)
        exact ⟨⟨i + 1, r2, _, by go_num, rfl, hr2, by omega, O, P, C, Q, HB⟩, by simp [intOf]; omega⟩
      · skip
        obtain rfl : i = n.toNat := by omega
        obtain rfl : r = q := hr.out.symm.trans hqe.out
        clear hr hqe HTK HRT
        obtain ⟨cP0, cP1, cP2, cP3, cP4, cP5, cP6, cP7, cP8, cP9, cP10, cP11, cP12, cP13, cP14⟩ := P.cells
        obtain ⟨cQ0, cQ1, cQ2, cQ3, cQ4, cQ5, cQ6, cQ7, cQ8, cQ9, cQ10, cQ11, cQ12, cQ13, cQ14⟩ := Q.cells
        obtain ⟨tQ0, tQ1, tQ2, tQ3, tQ4, tQ5, tQ6, tQ7, tQ8, tQ9, tQ10, tQ11, tQ12, tQ13, tQ14⟩ := Q.thaw
        go_wp2
        clear cP0 cP1 cP2 cP3 cP4 cP5 cP6 cP7 cP8 cP9 cP10 cP11 cP12 cP13 cP14 cQ0 cQ1 cQ2 cQ3 cQ4 cQ5 cQ6 cQ7 cQ8 cQ9 cQ10 cQ11 cQ12 cQ13 cQ14 tQ0 tQ1 tQ2 tQ3 tQ4 tQ5 tQ6 tQ7 tQ8 tQ9 tQ10 tQ11 tQ12 tQ13 tQ14
        replace HB := below_fr HB (PlAt.allFr _ (mb + 1 + 1 + 1) r) (Nat.le_refl _) (by intro k hk; replace hk : k = mb + 1 + 1 + 1 := hk; omega)
        replace Q := Q.all r
        refine bodyPost_ret (v := .agg #[.int .i64 r.id, .int .i64 r.px, .int .i64 r.py, .int .i64 r.pz, .int .i64 r.vx, .int .i64 r.vy, .int .i64 r.vz, .bool r.gr, .int .i64 r.he, .int .i64 r.ar, .int .i64 r.sc, .int .i64 r.a0, .int .i64 r.a1, .int .i64 r.wa, .int .i64 r.de]) ?_ rfl ⟨rfl, HB⟩
        obtain ⟨cQ0, cQ1, cQ2, cQ3, cQ4, cQ5, cQ6, cQ7, cQ8, cQ9, cQ10, cQ11, cQ12, cQ13, cQ14⟩ := Q.cells
        simp [results, Try.results15, go_sem, cQ0, cQ1, cQ2, cQ3, cQ4, cQ5, cQ6, cQ7, cQ8, cQ9, cQ10, cQ11, cQ12, cQ13, cQ14]
def nearB (n : Int) : Bool := decide (-32768 ≤ n) && decide (n ≤ 32768)
def slowB (p : Pl) : Bool := nearB p.vx && nearB p.vy && nearB p.vz
theorem slowB_iff {p : Pl} : slowB p = true ↔ p.Slow := by
  unfold slowB nearB
  simp only [Bool.and_eq_true, decide_eq_true_eq]
  constructor
  · rintro ⟨⟨⟨h1, h2⟩, h3, h4⟩, h5, h6⟩; exact ⟨h1, h2, h3, h4, h5, h6⟩
  · rintro ⟨h1, h2, h3, h4, h5, h6⟩; exact ⟨⟨⟨h1, h2⟩, h3, h4⟩, h5, h6⟩
def rtB (R : Int → Int → Int → Bool) (p : Pl) : Bool := slowB p && R p.px p.py p.pz
theorem rtB_iff {R : Int → Int → Int → Bool} {p : Pl} (hw : p.Wf) : rtB R p = true ↔ Rt R p := by
  unfold rtB
  rw [Bool.and_eq_true, slowB_iff]
  exact ⟨fun ⟨h1, h2⟩ => ⟨hw, h2, h1⟩, fun ⟨_, h2, h1⟩ => ⟨h1, h2⟩⟩
inductive RI (x y z : Int) : Nat → Prop
  | s0 : RI x y z 0
  | s1 : nearB x = true → RI x y z 1
  | s2 : nearB x = true → nearB y = true → RI x y z 2
  | s3 : nearB x = true → nearB y = true → nearB z = true → RI x y z 3
set_option maxHeartbeats 4000000 in
theorem walkRight (W D H : Int) (mp : Option Addr) (mn mc : Nat) (mf : Nat → Bool) (sp : Option Addr) (sn sc : Nat) (R : Int → Int → Int → Bool) (hR : ∀ x y z, R x y z = true ↔ (mpOf W D H mn mf).Room x y z) (p : Pl) (hpw : p.Wf) (f : Bool) (hf : rtB R p = f) (w : World) (hm : Arg w mp mn mc fun i => .bool (mf i)) :
    Calls Try.prog 11 #[.agg #[.int .i64 W, .int .i64 D, .int .i64 H, .slice mp mn mc, .slice sp sn sc], .agg #[.int .i64 p.id, .int .i64 p.px, .int .i64 p.py, .int .i64 p.pz, .int .i64 p.vx, .int .i64 p.vy, .int .i64 p.vz, .bool p.gr, .int .i64 p.he, .int .i64 p.ar, .int .i64 p.sc, .int .i64 p.a0, .int .i64 p.a1, .int .i64 p.wa, .int .i64 p.de]] w fun e w' => e = .returned (.bool f) ∧ Below w.heap.size w w' := by
  have HFR := hid (fun V (hV : Below w.heap.size w V) => traceFree W D H mp mn mc mf sp sn sc R hR p.px p.py p.pz hpw.x hpw.y hpw.z V (hm.keep hV))
  have HF := hid hf
  clear hm hf hR
  have O : O5 ((w.alloc (.cells #[.int .i64 W, .int .i64 D, .int .i64 H, .slice mp mn mc, .slice sp sn sc] 25)).alloc (.cells #[.int .i64 p.id, .int .i64 p.px, .int .i64 p.py, .int .i64 p.pz, .int .i64 p.vx, .int .i64 p.vy, .int .i64 p.vz, .bool p.gr, .int .i64 p.he, .int .i64 p.ar, .int .i64 p.sc, .int .i64 p.a0, .int .i64 p.a1, .int .i64 p.wa, .int .i64 p.de] 30)) (w.heap.size) (.int .i64 W) (.int .i64 D) (.int .i64 H) (.slice mp mn mc) (.slice sp sn sc) := (O5.new _ _ _ _ _ _).alloc _
  have P : PlAt ((w.alloc (.cells #[.int .i64 W, .int .i64 D, .int .i64 H, .slice mp mn mc, .slice sp sn sc] 25)).alloc (.cells #[.int .i64 p.id, .int .i64 p.px, .int .i64 p.py, .int .i64 p.pz, .int .i64 p.vx, .int .i64 p.vy, .int .i64 p.vz, .bool p.gr, .int .i64 p.he, .int .i64 p.ar, .int .i64 p.sc, .int .i64 p.a0, .int .i64 p.a1, .int .i64 p.wa, .int .i64 p.de] 30)) (w.heap.size + 1) p := PlAt.new' _ _ (by simp)
  have HB : Below w.heap.size w ((w.alloc (.cells #[.int .i64 W, .int .i64 D, .int .i64 H, .slice mp mn mc, .slice sp sn sc] 25)).alloc (.cells #[.int .i64 p.id, .int .i64 p.px, .int .i64 p.py, .int .i64 p.pz, .int .i64 p.vx, .int .i64 p.vy, .int .i64 p.vz, .bool p.gr, .int .i64 p.he, .int .i64 p.ar, .int .i64 p.sc, .int .i64 p.a0, .int .i64 p.a1, .int .i64 p.wa, .int .i64 p.de] 30)) := ((Below.refl _ _).alloc (Nat.le_refl _) _).alloc (by simp) _
  go_enter Try.func11, Try.ntmps11
  go_upto_region 1 with fail
  obtain ⟨mb, hmb⟩ : ∃ b, w.heap.size = b := ⟨_, rfl⟩
  have hwm : w.heap.size ≤ mb := by omega
  rw [hmb] at O P
  try simp only [hmb]
  generalize ((w.alloc (.cells #[.int .i64 W, .int .i64 D, .int .i64 H, .slice mp mn mc, .slice sp sn sc] 25)).alloc (.cells #[.int .i64 p.id, .int .i64 p.px, .int .i64 p.py, .int .i64 p.pz, .int .i64 p.vx, .int .i64 p.vy, .int .i64 p.vz, .bool p.gr, .int .i64 p.he, .int .i64 p.ar, .int .i64 p.sc, .int .i64 p.a0, .int .i64 p.a1, .int .i64 p.wa, .int .i64 p.de] 30)) = V0 at *
  clear hmb
  obtain ⟨cP0, cP1, cP2, cP3, cP4, cP5, cP6, cP7, cP8, cP9, cP10, cP11, cP12, cP13, cP14⟩ := P.cells
  go_wp2_with fail
  refine (walkAxesOf _ _ _ _).mono ?_; rintro e V1 ⟨rfl, bq⟩
  clear cP0 cP1 cP2 cP3 cP4 cP5 cP6 cP7 cP8 cP9 cP10 cP11 cP12 cP13 cP14
  replace O := O.keep bq; replace P := P.keep bq; replace HB := btrans HB bq
  clear bq
  obtain ⟨i0, i1, i2⟩ := idx3i (.int .i64 p.vx) (.int .i64 p.vy) (.int .i64 p.vz)
  go_wp2
  go_loopw [10] (fun v wr => ∃ (i : Nat) (V : World), v = .int .i64 i ∧ wr = V ∧ RI p.vx p.vy p.vz i ∧ O5 V mb (.int .i64 W) (.int .i64 D) (.int .i64 H) (.slice mp mn mc) (.slice sp sn sc) ∧ PlAt V (mb + 1) p ∧ Below w.heap.size w V) (fun v _ => 3 - (intOf v).toNat)
  case atStart => exact ⟨0, _, rfl, rfl, .s0, O, P, HB⟩
  case round =>
    clear O P HB
    obtain ⟨i, V, rfl, eV, hI, O, P, HB⟩ := hrel
    subst eV
    cases hI with
    | s0  =>
      by_cases g1 : 32768 < p.vx
      · have hff : f = false := by
          have : nearB p.vx = false := by unfold nearB; simp; omega
          rw [← HF.out]; unfold rtB slowB; rw [this]; simp
        subst hff
        clear HF HFR
        go_wp2
        go_ret
        exact ⟨rfl, HB⟩
      · by_cases g2 : p.vx < -32768
        · have hff : f = false := by
            have : nearB p.vx = false := by unfold nearB; simp; omega
            rw [← HF.out]; unfold rtB slowB; rw [this]; simp
          subst hff
          clear HF HFR
          go_wp2
          go_ret
          exact ⟨rfl, HB⟩
        · have hok : nearB p.vx = true := by unfold nearB; simp; omega
          go_wp2
          exact ⟨⟨1, _, rfl, rfl, .s1  hok, O, P, HB⟩, by simp [intOf]⟩
    | s1 h1 =>
      by_cases g1 : 32768 < p.vy
      · have hff : f = false := by
          have : nearB p.vy = false := by unfold nearB; simp; omega
          rw [← HF.out]; unfold rtB slowB; rw [this]; simp
        subst hff
        clear HF HFR
        go_wp2
        go_ret
        exact ⟨rfl, HB⟩
      · by_cases g2 : p.vy < -32768
        · have hff : f = false := by
            have : nearB p.vy = false := by unfold nearB; simp; omega
            rw [← HF.out]; unfold rtB slowB; rw [this]; simp
          subst hff
          clear HF HFR
          go_wp2
          go_ret
          exact ⟨rfl, HB⟩
        · have hok : nearB p.vy = true := by unfold nearB; simp; omega
          go_wp2
          exact ⟨⟨2, _, rfl, rfl, .s2 h1 hok, O, P, HB⟩, by simp [intOf]⟩
    | s2 h1 h2 =>
      by_cases g1 : 32768 < p.vz
      · have hff : f = false := by
          have : nearB p.vz = false := by unfold nearB; simp; omega
          rw [← HF.out]; unfold rtB slowB; rw [this]; simp
        subst hff
        clear HF HFR
        go_wp2
        go_ret
        exact ⟨rfl, HB⟩
      · by_cases g2 : p.vz < -32768
        · have hff : f = false := by
            have : nearB p.vz = false := by unfold nearB; simp; omega
            rw [← HF.out]; unfold rtB slowB; rw [this]; simp
          subst hff
          clear HF HFR
          go_wp2
          go_ret
          exact ⟨rfl, HB⟩
        · have hok : nearB p.vz = true := by unfold nearB; simp; omega
          go_wp2
          exact ⟨⟨3, _, rfl, rfl, .s3 h1 h2 hok, O, P, HB⟩, by simp [intOf]⟩
    | s3 h1 h2 h3 =>
      have hff : R p.px p.py p.pz = f := by rw [← HF.out]; unfold rtB slowB; rw [h1, h2, h3]; simp
      clear HF h1 h2 h3
      obtain ⟨cO0, cO1, cO2, cO3, cO4⟩ := O.cells
      obtain ⟨cP0, cP1, cP2, cP3, cP4, cP5, cP6, cP7, cP8, cP9, cP10, cP11, cP12, cP13, cP14⟩ := P.cells
      go_wp2_with fail
      refine (HFR.out _ HB).mono ?_; rintro e V5 ⟨rfl, bq⟩
      clear cO0 cO1 cO2 cO3 cO4 cP0 cP1 cP2 cP3 cP4 cP5 cP6 cP7 cP8 cP9 cP10 cP11 cP12 cP13 cP14
      replace O := O.keep bq; replace P := P.keep bq; replace HB := btrans HB bq
      clear bq
      rw [hff]
      go_wp2
      go_ret
      exact ⟨rfl, HB⟩
end Go.Proofs.Ytjjdclckkhddbaa
