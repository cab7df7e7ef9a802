/- Layer 12 (shot): the walk of ShotFree. -/
import Derived.Test.YthcmcjklhcfenaaShI
import Derived.Test.YthcmcjklhcfenaaShJ
namespace Go.Proofs.Ythcmcjklhcfenaa
open Go.RowKit
set_option linter.unusedVariables false
set_option linter.unusedSimpArgs false
attribute [local go_sem ↓] Go.wp_at_zero Go.wp_at_succ

/-- A shot that was made at a free place, some steps later. -/
structure Frees (S : Int → Int → Int → Bool) (kd F : Int) (i : Int) (s : Sh) : Prop where
  h1 : 1 ≤ i
  h2 : i ≤ F
  F0 : F ≤ 200
  fu : s.fu = F + 1 - i
  id : s.id = 1
  ow : s.ow = 1
  kd : s.kd = kd
  fr : S s.px s.py s.pz = false
  ins : s.In (6553600 + i * 262144) (200 + i)
theorem Frees.on {S : Int → Int → Int → Bool} {kd F i : Int} {s t : Sh} (h : Frees S kd F i s) (he : sstep S s = (t, false)) : Frees S kd F (i + 1) t := by
  have h2 := h.h2; have hf := h.fu; have h1 := h.h1
  have e1 : (sstep S s).1 = t := by rw [he]
  have e2 : (sstep S s).2 = false := by rw [he]
  have hlt : i + 1 ≤ F := by
    apply Classical.byContradiction; intro hn
    rw [sstep_old (S := S) (s := s) (by omega)] at e2
    exact absurd e2 (by simp)
  have g1 := sstep_fuse S s; have g2 := sstep_ids S s; have g3 := sstep_free h.fr; have g4 := sstep_in (S := S) h.ins
  rw [e1] at g1 g2 g3 g4
  exact ⟨by omega, hlt, h.F0, by omega, g2.1.trans h.id, g2.2.1.trans h.ow, g2.2.2.trans h.kd, g3, g4.mono (by omega) (by omega)⟩
theorem Frees.near {S : Int → Int → Int → Bool} {kd F i : Int} {s : Sh} (h : Frees S kd F i s) : s.In 500000000 5000000 := by
  have h2 := h.h2; have h0 := h.F0
  exact h.ins.mono (by omega) (by omega)
set_option maxRecDepth 100000 in
set_option maxHeartbeats 8000000 in
theorem shotFree_walk (W D H : Int) (mp : Option Addr) (mn mc : Nat) (mf : Nat → Bool) (sp : Option Addr) (sn sc : Nat) (X Y Z : Nat → Int) (kd : Int) (x y z : Int) (a b c : Int) (w : World) (hW : I64 W) (hD : I64 D) (hH : I64 H) (hm : Arg w mp mn mc fun i => .bool (mf i)) (hv : ArgW w sp sn sc X Y Z) (hX : ∀ i, I64 (X i) ∧ I64 (Y i) ∧ I64 (Z i)) (hkd : I64 kd) (hx : I64 x) (hy : I64 y) (hz : I64 z) (ha : I64 a) (hb : I64 b) (hc : I64 c) :
    Calls Try.prog 3 #[.agg #[.int .i64 W, .int .i64 D, .int .i64 H, .slice mp mn mc, .slice sp sn sc], .int .i64 kd, .agg #[.int .i64 x, .int .i64 y, .int .i64 z], .agg #[.int .i64 a, .int .i64 b, .int .i64 c]] w fun e w' => e = .returned (.bool true) ∧ Below w.heap.size w w' := by
  obtain ⟨sr, hsr⟩ := boolOf ((mpOf W D H mn mf).RightP sn X Y Z)
  obtain ⟨sm, hsm⟩ : ∃ s, (decide (W ≤ 10) && decide (D ≤ 10) && decide (H ≤ 10) && sr) = s := ⟨_, rfl⟩
  have HSM := hid (fun V (hV : Below w.heap.size w V) => lawSmall12 W D H mp mn mc mf sp sn sc X Y Z hX sr hsr V (hm.keep hV) (hv.keep hV))
  rw [hsm] at HSM
  have HM := hid (fun V (hV : Below w.heap.size w V) => hm.keep hV)
  clear hsm hsr hW hD hH hX hv hm
  have HIx := hid (fun V => lawIn12 x 6553600 (by omega) (by omega) V)
  obtain ⟨dx, hdx⟩ : ∃ d, inB x 6553600 = d := ⟨_, rfl⟩
  rw [hdx] at HIx
  have HIy := hid (fun V => lawIn12 y 6553600 (by omega) (by omega) V)
  obtain ⟨dy, hdy⟩ : ∃ d, inB y 6553600 = d := ⟨_, rfl⟩
  rw [hdy] at HIy
  have HIz := hid (fun V => lawIn12 z 6553600 (by omega) (by omega) V)
  obtain ⟨dz, hdz⟩ : ∃ d, inB z 6553600 = d := ⟨_, rfl⟩
  rw [hdz] at HIz
  have HSO := hid (fun x y z ix iy iz V (hV : Below w.heap.size w V) => lawSolid12 W D H mp mn mc mf sp sn sc x y z ix iy iz V (HM.out V hV))
  obtain ⟨S, eS⟩ : ∃ S, (mpOf W D H mn mf).sol = S := ⟨_, rfl⟩
  have HST := hid (fun s (hs : Sh.In s 900000000 9000000) q t hq V (hV : Below w.heap.size w V) => shotStep W D H mp mn mc mf sp sn sc s hs q t hq V (HM.out V hV))
  rw [eS] at HSO HST
  obtain ⟨fr, hfr⟩ : ∃ d, S x y z = d := ⟨_, rfl⟩
  have HS0 := hid (HSO.out x y z hx hy hz)
  rw [hfr] at HS0
  obtain ⟨q, n, hq⟩ : ∃ q n, newS 1 1 kd x y z a b c = (q, n) := ⟨_, _, rfl⟩
  have HN := hid (fun V => shotNew 1 1 kd x y z a b c ha hb hc q n hq V)
  have HF := hid (show dx = true → dy = true → dz = true → fr = false → (n = 1 ∨ (n = 0 ∧ ∃ F, q.fu = F ∧ Frees S kd F 1 q)) from by
    intro ex ey ez ef
    rcases newS_cases hq with ⟨_, rfl⟩ | ⟨rfl, c1, na, nb, nc, s, f, hk, rfl⟩
    · exact .inl rfl
    · refine .inr ⟨rfl, f, rfl, ?_⟩
      rw [ex] at hdx; rw [ey] at hdy; rw [ez] at hdz; rw [ef] at hfr
      unfold inB at hdx hdy hdz
      simp only [Bool.and_eq_true, decide_eq_true_eq] at hdx hdy hdz
      obtain ⟨l0, l1, la, lb, lc⟩ := flong_near na nb nc c1 rfl
      have g1 := mkv_goes (d := a) (s := s) (by omega) l0 la.2 la.1
      have g2 := mkv_goes (d := b) (s := s) (by omega) l0 lb.2 lb.1
      have g3 := mkv_goes (d := c) (s := s) (by omega) l0 lc.2 lc.1
      refine ⟨by omega, by omega, by omega, by show f = _; omega, rfl, rfl, rfl, hfr, ?_⟩
      constructor <;> dsimp only <;> omega)
  clear hq hdx hdy hdz hfr eS hkd hx hy hz ha hb hc
  have O : O5 (((w.alloc (.cells #[.int .i64 W, .int .i64 D, .int .i64 H, .slice mp mn mc, .slice sp sn sc] 25)).alloc (.cells #[.int .i64 x, .int .i64 y, .int .i64 z] 27)).alloc (.cells #[.int .i64 a, .int .i64 b, .int .i64 c] 27)) (w.heap.size) (.int .i64 W) (.int .i64 D) (.int .i64 H) (.slice mp mn mc) (.slice sp sn sc) := ((O5.new _ _ _ _ _ _).alloc _).alloc _
  have A : O3 (((w.alloc (.cells #[.int .i64 W, .int .i64 D, .int .i64 H, .slice mp mn mc, .slice sp sn sc] 25)).alloc (.cells #[.int .i64 x, .int .i64 y, .int .i64 z] 27)).alloc (.cells #[.int .i64 a, .int .i64 b, .int .i64 c] 27)) (w.heap.size + 1) 27 (.int .i64 x) (.int .i64 y) (.int .i64 z) := (O3.new' _ _ _ _ _ (by simp)).alloc _
  have G : O3 (((w.alloc (.cells #[.int .i64 W, .int .i64 D, .int .i64 H, .slice mp mn mc, .slice sp sn sc] 25)).alloc (.cells #[.int .i64 x, .int .i64 y, .int .i64 z] 27)).alloc (.cells #[.int .i64 a, .int .i64 b, .int .i64 c] 27)) (w.heap.size + 1 + 1) 27 (.int .i64 a) (.int .i64 b) (.int .i64 c) := O3.new' _ _ _ _ _ (by simp)
  have HB : Below w.heap.size w (((w.alloc (.cells #[.int .i64 W, .int .i64 D, .int .i64 H, .slice mp mn mc, .slice sp sn sc] 25)).alloc (.cells #[.int .i64 x, .int .i64 y, .int .i64 z] 27)).alloc (.cells #[.int .i64 a, .int .i64 b, .int .i64 c] 27)) := (((Below.refl _ _).alloc (Nat.le_refl _) _).alloc (by simp) _).alloc (by simp; omega) _
  go_enter Try.func3, Try.ntmps3
  go_upto_region 1 with fail
  obtain ⟨mb, hmb⟩ : ∃ b, w.heap.size = b := ⟨_, rfl⟩
  have hwm : w.heap.size ≤ mb := by omega
  rw [hmb] at O A G
  try simp only [hmb]
  generalize (((w.alloc (.cells #[.int .i64 W, .int .i64 D, .int .i64 H, .slice mp mn mc, .slice sp sn sc] 25)).alloc (.cells #[.int .i64 x, .int .i64 y, .int .i64 z] 27)).alloc (.cells #[.int .i64 a, .int .i64 b, .int .i64 c] 27)) = V0 at *
  clear hmb
  go_wp2_with fail
  refine (lawShown12 _).mono ?_; rintro e V1 ⟨rfl, bq⟩
  replace O := O.keep bq; replace A := A.keep bq; replace G := G.keep bq; replace HB := btrans HB bq
  clear bq
  obtain ⟨cO0, cO1, cO2, cO3, cO4⟩ := O.cells
  obtain ⟨cA0, cA1, cA2⟩ := A.cells
  go_wp2_with fail
  refine (HSM.out _ HB).mono ?_; rintro e V2 ⟨rfl, bq⟩
  clear cO0 cO1 cO2 cO3 cO4 cA0 cA1 cA2
  replace O := O.keep bq; replace A := A.keep bq; replace G := G.keep bq; replace HB := btrans HB bq
  clear bq
  clear HSM
  cases sm with
  | false =>
    go_wp2
    go_ret
    exact ⟨rfl, HB⟩
  | true =>
    obtain ⟨cO0, cO1, cO2, cO3, cO4⟩ := O.cells
    obtain ⟨cA0, cA1, cA2⟩ := A.cells
    go_wp2_with fail
    refine (HIx.out _).mono ?_; rintro e Wx ⟨rfl, hv⟩
    replace hv := hv.symm; subst hv
    clear HIx
    cases dx with
    | false =>
      go_wp2
      go_ret
      exact ⟨rfl, HB⟩
    | true =>
      go_wp2_with fail
      refine (HIy.out _).mono ?_; rintro e Wy ⟨rfl, hv⟩
      replace hv := hv.symm; subst hv
      clear HIy
      cases dy with
      | false =>
        go_wp2
        go_ret
        exact ⟨rfl, HB⟩
      | true =>
        go_wp2_with fail
        refine (HIz.out _).mono ?_; rintro e Wz ⟨rfl, hv⟩
        replace hv := hv.symm; subst hv
        clear HIz
        cases dz with
        | false =>
          go_wp2
          go_ret
          exact ⟨rfl, HB⟩
        | true =>
          go_wp2_with fail
          refine (HS0.out _ HB).mono ?_; rintro e V3 ⟨rfl, bq⟩
          clear cO0 cO1 cO2 cO3 cO4 cA0 cA1 cA2
          replace O := O.keep bq; replace A := A.keep bq; replace G := G.keep bq; replace HB := btrans HB bq
          clear bq
          clear HS0
          cases fr with
          | true =>
            go_wp2
            go_ret
            exact ⟨rfl, HB⟩
          | false =>
            replace HF := hid (HF.out (by simp) (by simp) (by simp) (by simp))
            obtain ⟨cA0, cA1, cA2⟩ := A.cells
            obtain ⟨cG0, cG1, cG2⟩ := G.cells
            go_wp2_with fail
            refine (HN.out _).mono ?_; rintro e V4 ⟨rfl, bq⟩
            clear cA0 cA1 cA2 cG0 cG1 cG2
            replace O := O.keep bq; replace A := A.keep bq; replace G := G.keep bq; replace HB := btrans HB bq
            clear bq
            clear HN
            go_upto_region 5 with fail
            have lG := G.lt
            replace O := O.alloc (.cells #[.int .i64 q.id, .int .i64 q.ow, .int .i64 q.kd, .int .i64 q.px, .int .i64 q.py, .int .i64 q.pz, .int .i64 q.vx, .int .i64 q.vy, .int .i64 q.vz, .int .i64 q.fu, .bool q.rs] 33)
            replace A := A.alloc (.cells #[.int .i64 q.id, .int .i64 q.ow, .int .i64 q.kd, .int .i64 q.px, .int .i64 q.py, .int .i64 q.pz, .int .i64 q.vx, .int .i64 q.vy, .int .i64 q.vz, .int .i64 q.fu, .bool q.rs] 33)
            replace G := G.alloc (.cells #[.int .i64 q.id, .int .i64 q.ow, .int .i64 q.kd, .int .i64 q.px, .int .i64 q.py, .int .i64 q.pz, .int .i64 q.vx, .int .i64 q.vy, .int .i64 q.vz, .int .i64 q.fu, .bool q.rs] 33)
            replace HB := HB.alloc HB.size (.cells #[.int .i64 q.id, .int .i64 q.ow, .int .i64 q.kd, .int .i64 q.px, .int .i64 q.py, .int .i64 q.pz, .int .i64 q.vx, .int .i64 q.vy, .int .i64 q.vz, .int .i64 q.fu, .bool q.rs] 33)
            have P := ShAt.new V4 q
            obtain ⟨pb, hpb⟩ : ∃ b, V4.heap.size = b := ⟨_, rfl⟩
            rw [hpb] at P lG
            try simp only [hpb]
            generalize V4.alloc (.cells #[.int .i64 q.id, .int .i64 q.ow, .int .i64 q.kd, .int .i64 q.px, .int .i64 q.py, .int .i64 q.pz, .int .i64 q.vx, .int .i64 q.vy, .int .i64 q.vz, .int .i64 q.fu, .bool q.rs] 33) = V5 at *
            clear hpb
            rcases HF.out with rfl | ⟨rfl, F, eF, HI⟩
            · skip
              go_wp2
              go_ret
              exact ⟨rfl, HB⟩
            · clear HF
              obtain ⟨cP0, cP1, cP2, cP3, cP4, cP5, cP6, cP7, cP8, cP9, cP10⟩ := P.cells
              rw [eF] at cP9
              have f0 : 1 ≤ F := HI.h2
              replace HI := hid HI
              clear eF
              go_wp2
              clear cP0 cP1 cP2 cP3 cP4 cP5 cP6 cP7 cP8 cP9 cP10
              skip
              have hmp : mb < pb := by omega
              go_loopw [13] (fun v wr => ∃ (i : Nat) (p : Sh) (V : World), v = .int .i64 i ∧ wr = V ∧ Hid (Frees S kd F i p) ∧ O5 V mb (.int .i64 W) (.int .i64 D) (.int .i64 H) (.slice mp mn mc) (.slice sp sn sc) ∧ ShAt V pb p ∧ Below w.heap.size w V) (fun v _ => (F + 1 - intOf v).toNat)
              case atStart => exact ⟨1, q, _, rfl, rfl, HI, O, P, HB⟩
              case round =>
                clear HI O P HB A G
                obtain ⟨i, p, V, rfl, eV, HI, O, P, HB⟩ := hrel
                subst eV
                have hi : (i : Int) ≤ F := HI.out.h2
                obtain ⟨t, f, hst⟩ : ∃ t f, sstep S p = (t, f) := ⟨_, _, rfl⟩
                have e1 : (sstep S p).1 = t := by rw [hst]
                have g1 := sstep_fuse S p; have g2 := sstep_ids S p; have g3 := sstep_free HI.out.fr; have g4 := sstep_in (S := S) HI.out.ins
                rw [e1] at g1 g2 g3 g4
                have HN1 := hid (show f = false → Frees S kd F ((i + 1 : Nat) : Int) t from fun e => HI.out.on (hst.trans (by rw [e])))
                have hF2 := HI.out.F0
                have hin := HI.out.near
                have hin2 : t.In 600000000 6000000 := g4.mono (by omega) (by omega)
                have HS1 := hid (HST.out p (hin.mono (by omega) (by omega)) t f hst)
                have HS2 := hid (HSO.out t.px t.py t.pz (i64_in (by have := hin2.x0; omega) (by have := hin2.x1; omega)) (i64_in (by have := hin2.y0; omega) (by have := hin2.y1; omega)) (i64_in (by have := hin2.z0; omega) (by have := hin2.z1; omega)))
                rw [g3] at HS2
                have hw : IntKind.i64.wrap (p.fu - 1) = t.fu := by rw [g1]; exact wrapI (by have := hin.f0; omega) (by have := hin.f1; omega)
                have hid1 : t.id = 1 := g2.1.trans HI.out.id
                have how : t.ow = 1 := g2.2.1.trans HI.out.ow
                have hkd : t.kd = kd := g2.2.2.trans HI.out.kd
                have HV := hid (show kd = 0 → t.vx = p.vx ∧ t.vy = p.vy ∧ t.vz = p.vz from fun e => by have := sstep_rocket (S := S) (s := p) (HI.out.kd.trans e); rw [e1] at this; exact this)
                clear HI hst e1 g1 g2 g3 g4 hin hin2 hF2
                replace hw := hid hw; replace hid1 := hid hid1; replace how := hid how; replace hkd := hid hkd
                obtain ⟨cO0, cO1, cO2, cO3, cO4⟩ := O.cells
                go_wp2_with (refine wpList_ldS (by rfl) _ rfl _ _ rfl (by assumption) ?_)
                refine (HS1.out _ HB).mono ?_; rintro e V1 ⟨rfl, bq⟩
                clear cO0 cO1 cO2 cO3 cO4
                replace O := O.keep bq; replace P := P.keep bq; replace HB := btrans HB bq
                clear bq
                clear HS1
                go_upto_region 12 with fail
                have lP := P.lt
                replace O := O.alloc (.cells #[.int .i64 t.id, .int .i64 t.ow, .int .i64 t.kd, .int .i64 t.px, .int .i64 t.py, .int .i64 t.pz, .int .i64 t.vx, .int .i64 t.vy, .int .i64 t.vz, .int .i64 t.fu, .bool t.rs] 33)
                replace P := P.alloc (.cells #[.int .i64 t.id, .int .i64 t.ow, .int .i64 t.kd, .int .i64 t.px, .int .i64 t.py, .int .i64 t.pz, .int .i64 t.vx, .int .i64 t.vy, .int .i64 t.vz, .int .i64 t.fu, .bool t.rs] 33)
                replace HB := HB.alloc HB.size (.cells #[.int .i64 t.id, .int .i64 t.ow, .int .i64 t.kd, .int .i64 t.px, .int .i64 t.py, .int .i64 t.pz, .int .i64 t.vx, .int .i64 t.vy, .int .i64 t.vz, .int .i64 t.fu, .bool t.rs] 33)
                have T := ShAt.new V1 t
                obtain ⟨tb, htb⟩ : ∃ b, V1.heap.size = b := ⟨_, rfl⟩
                rw [htb] at T lP
                try simp only [htb]
                generalize V1.alloc (.cells #[.int .i64 t.id, .int .i64 t.ow, .int .i64 t.kd, .int .i64 t.px, .int .i64 t.py, .int .i64 t.pz, .int .i64 t.vx, .int .i64 t.vy, .int .i64 t.vz, .int .i64 t.fu, .bool t.rs] 33) = V2 at *
                clear htb
                have hot : mb < tb := by omega
                obtain ⟨cO0, cO1, cO2, cO3, cO4⟩ := O.cells
                obtain ⟨cT0, cT1, cT2, cT3, cT4, cT5, cT6, cT7, cT8, cT9, cT10⟩ := T.cells
                go_wp2_with fail
                refine (HS2.out _ HB).mono ?_; rintro e V3 ⟨rfl, bq⟩
                clear cO0 cO1 cO2 cO3 cO4 cT0 cT1 cT2 cT3 cT4 cT5 cT6 cT7 cT8 cT9 cT10
                replace O := O.keep bq; replace P := P.keep bq; replace T := T.keep bq; replace HB := btrans HB bq
                clear bq
                clear HS2
                obtain ⟨cT0, cT1, cT2, cT3, cT4, cT5, cT6, cT7, cT8, cT9, cT10⟩ := T.cells
                obtain ⟨cP0, cP1, cP2, cP3, cP4, cP5, cP6, cP7, cP8, cP9, cP10⟩ := P.cells
                rw [hid1.out] at cT0; rw [how.out] at cT1; rw [hkd.out] at cT2
                have hw2 := hw.out
                by_cases hk : kd = 0
                · skip
                  obtain ⟨v1, v2, v3⟩ := HV.out hk
                  rw [v1] at cT6; rw [v2] at cT7; rw [v3] at cT8
                  have EQ := eqV p.vx p.vy p.vz p.vx p.vy p.vz
                  simp only [beq_self_eq_true, Bool.and_true] at EQ
                  clear v1 v2 v3 HV
                  subst hk
                  go_upto_region 14 with fail
                  clear cT0 cT1 cT2 cT3 cT4 cT5 cT6 cT7 cT8 cT9 cT10 cP0 cP1 cP2 cP3 cP4 cP5 cP6 cP7 cP8 cP9 cP10
                  clear hw2 EQ
                  cases f with
                  | true =>
                    go_wp2
                    go_ret
                    exact ⟨rfl, HB⟩
                  | false =>
                    replace HN1 := hid (HN1.out rfl)
                    have ew : IntKind.i64.wrap ((i : Int) + 1) = ((i + 1 : Nat) : Int) := by have := HN1.out.h2; have := HN1.out.F0; rw [wrapI (by omega) (by omega)]; rfl
                    go_wp2_with (first | (refine wpList_ldS (by rfl) _ rfl _ _ rfl (by assumption) ?_) | (refine wpList_stS (by rfl) _ _ rfl _ _ (t) rfl rfl (by assumption) (fun V9 hN hF => ?_)))
                    replace O := O.fr hF (show ¬ (mb = pb) by omega)
                    replace P := hN
                    replace T := T.fr hF (show ¬ (tb = pb) by omega)
                    replace HB := below_fr HB hF (Nat.le_refl _) (by intro k hk; replace hk : k = pb := hk; omega)
                    clear hN hF
                    exact ⟨⟨i + 1, t, _, by first | rfl | go_num, rfl, HN1, O, P, HB⟩, by simp [intOf]; omega⟩
                · skip
                  go_upto_region 14 with fail
                  clear cT0 cT1 cT2 cT3 cT4 cT5 cT6 cT7 cT8 cT9 cT10 cP0 cP1 cP2 cP3 cP4 cP5 cP6 cP7 cP8 cP9 cP10
                  clear hw2
                  cases f with
                  | true =>
                    go_wp2
                    go_ret
                    exact ⟨rfl, HB⟩
                  | false =>
                    replace HN1 := hid (HN1.out rfl)
                    have ew : IntKind.i64.wrap ((i : Int) + 1) = ((i + 1 : Nat) : Int) := by have := HN1.out.h2; have := HN1.out.F0; rw [wrapI (by omega) (by omega)]; rfl
                    go_wp2_with (first | (refine wpList_ldS (by rfl) _ rfl _ _ rfl (by assumption) ?_) | (refine wpList_stS (by rfl) _ _ rfl _ _ (t) rfl rfl (by assumption) (fun V9 hN hF => ?_)))
                    replace O := O.fr hF (show ¬ (mb = pb) by omega)
                    replace P := hN
                    replace T := T.fr hF (show ¬ (tb = pb) by omega)
                    replace HB := below_fr HB hF (Nat.le_refl _) (by intro k hk; replace hk : k = pb := hk; omega)
                    clear hN hF
                    exact ⟨⟨i + 1, t, _, by first | rfl | go_num, rfl, HN1, O, P, HB⟩, by simp [intOf]; omega⟩
end Go.Proofs.Ythcmcjklhcfenaa
