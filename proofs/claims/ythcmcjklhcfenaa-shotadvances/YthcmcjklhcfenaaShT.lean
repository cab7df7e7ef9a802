/- Layer 12 (shot): the walk of ShotAdvances. -/
import Derived.Test.YthcmcjklhcfenaaShI
import Derived.Test.YthcmcjklhcfenaaShArg
namespace Go.Proofs.Ythcmcjklhcfenaa
open Go.RowKit
set_option linter.unusedVariables false
set_option linter.unusedSimpArgs false
attribute [local go_sem ↓] Go.wp_at_zero Go.wp_at_succ

set_option maxRecDepth 100000 in
set_option maxHeartbeats 8000000 in
theorem shotAdvances_walk (W D H : Int) (mp : Option Addr) (mn mc : Nat) (mf : Nat → Bool) (sp : Option Addr) (sn sc : Nat) (X Y Z : Nat → Int) (s : Sh) (a : Int) (b : Int) (w : World) (hW : I64 W) (hD : I64 D) (hH : I64 H) (hm : Arg w mp mn mc fun i => .bool (mf i)) (hv : ArgW w sp sn sc X Y Z) (hX : ∀ i, I64 (X i) ∧ I64 (Y i) ∧ I64 (Z i)) (hs : s.Wf) (ha : I64 a) (hb : I64 b) :
    Calls Try.prog 4 #[.agg #[.int .i64 W, .int .i64 D, .int .i64 H, .slice mp mn mc, .slice sp sn sc], .agg #[.int .i64 s.id, .int .i64 s.ow, .int .i64 s.kd, .int .i64 s.px, .int .i64 s.py, .int .i64 s.pz, .int .i64 s.vx, .int .i64 s.vy, .int .i64 s.vz, .int .i64 s.fu, .bool s.rs], .int .i64 a, .int .i64 b] w fun e w' => e = .returned (.bool true) ∧ Below w.heap.size w w' := by
  obtain ⟨sr, hsr⟩ := boolOf ((mpOf W D H mn mf).RightP sn X Y Z)
  obtain ⟨sm, hsm⟩ : ∃ s, (decide (W ≤ 10) && decide (D ≤ 10) && decide (H ≤ 10) && sr) = s := ⟨_, rfl⟩
  have HSM := hid (fun V (hV : Below w.heap.size w V) => lawSmall12 W D H mp mn mc mf sp sn sc X Y Z hX sr hsr V (hm.keep hV) (hv.keep hV))
  rw [hsm] at HSM
  have HM := hid (fun V (hV : Below w.heap.size w V) => hm.keep hV)
  clear hsm hsr hW hD hH hX hv hm
  clear hs ha hb
  obtain ⟨m, hx, hm⟩ := mask (m := 31) (x := a) (k := 5) rfl (by omega)
  have m31 : m ≤ 31 := by omega
  clear hx
  obtain ⟨n, hx, hn⟩ := mask (m := 31) (x := b) (k := 5) rfl (by omega)
  have n31 : n ≤ 31 := by omega
  clear hx
  obtain ⟨S, eS⟩ : ∃ S, (mpOf W D H mn mf).sol = S := ⟨_, rfl⟩
  have HA := hid (fun s (hs : Sh.In s 500000000 5000000) n h0 h1 q j t hq V (hV : Below w.heap.size w V) => shotAdvance W D H mp mn mc mf sp sn sc s hs n h0 h1 q j t hq V (HM.out V hV))
  rw [eS] at HA
  clear eS
  obtain ⟨qa, ja, ta, hqa⟩ : ∃ q j t, adv S (m + n) s = (q, j, t) := ⟨_, _, _, rfl⟩
  obtain ⟨q1, j1, t1, hq1⟩ : ∃ q j t, adv S m s = (q, j, t) := ⟨_, _, _, rfl⟩
  obtain ⟨q2, j2, t2, hq2⟩ : ∃ q j t, adv S n q1 = (q, j, t) := ⟨_, _, _, rfl⟩
  have HT := hid (show t1 = true → qa = q1 ∧ ja = j1 ∧ ta = true ∧ j1 ≤ m from by
    intro e; subst e
    have h := adv_burst (S := S) (m := m) (n := n) (s := s) (by rw [hq1])
    rw [hqa, hq1] at h
    have h2 := (adv_count S m s).1
    rw [hq1] at h2
    exact ⟨congrArg (·.1) h, congrArg (·.2.1) h, congrArg (·.2.2) h, h2⟩)
  have HU := hid (show t1 = false → qa = q2 ∧ ja = m + j2 ∧ ta = t2 ∧ j1 = m from by
    intro e; subst e
    have h := adv_on (S := S) (m := m) (n := n) (s := s) (by rw [hq1])
    have h2 := (adv_count S m s).2 (by rw [hq1])
    rw [hqa, hq1] at h
    dsimp only at h
    rw [hq2] at h
    rw [hq1] at h2
    exact ⟨congrArg (·.1) h, congrArg (·.2.1) h, congrArg (·.2.2) h, h2⟩)
  have HJ := hid (show ja ≤ 62 ∧ j1 ≤ 31 ∧ j2 ≤ 31 from by
    have h1 := (adv_count S (m + n) s).1; have h2 := (adv_count S m s).1; have h3 := (adv_count S n q1).1
    rw [hqa] at h1; rw [hq1] at h2; rw [hq2] at h3
    dsimp only at h1 h2 h3
    omega)
  obtain ⟨nb, hnb⟩ : ∃ b, nearB12 s = b := ⟨_, rfl⟩
  have HNR := hid (fun V => lawNear s V)
  rw [hnb] at HNR
  have HNB := hid (show nb = true → s.In 500000000 5000000 ∧ q1.In 500000000 5000000 from by
    intro e; subst e
    have h := nearB12_in hnb
    have h2 := adv_in (S := S) m h
    rw [hq1] at h2
    exact ⟨h.mono (by omega) (by omega), h2.mono (by omega) (by omega)⟩)
  replace hqa := hid hqa; replace hq1 := hid hq1; replace hq2 := hid hq2
  have HMN := hid (And.intro m31 n31)
  clear m31 n31 hnb
  have O : O5 ((w.alloc (.cells #[.int .i64 W, .int .i64 D, .int .i64 H, .slice mp mn mc, .slice sp sn sc] 25)).alloc (.cells #[.int .i64 s.id, .int .i64 s.ow, .int .i64 s.kd, .int .i64 s.px, .int .i64 s.py, .int .i64 s.pz, .int .i64 s.vx, .int .i64 s.vy, .int .i64 s.vz, .int .i64 s.fu, .bool s.rs] 33)) (w.heap.size) (.int .i64 W) (.int .i64 D) (.int .i64 H) (.slice mp mn mc) (.slice sp sn sc) := (O5.new _ _ _ _ _ _).alloc _
  have P : ShAt ((w.alloc (.cells #[.int .i64 W, .int .i64 D, .int .i64 H, .slice mp mn mc, .slice sp sn sc] 25)).alloc (.cells #[.int .i64 s.id, .int .i64 s.ow, .int .i64 s.kd, .int .i64 s.px, .int .i64 s.py, .int .i64 s.pz, .int .i64 s.vx, .int .i64 s.vy, .int .i64 s.vz, .int .i64 s.fu, .bool s.rs] 33)) (w.heap.size + 1) s := ShAt.new' _ _ (by simp)
  have HB : Below w.heap.size w ((w.alloc (.cells #[.int .i64 W, .int .i64 D, .int .i64 H, .slice mp mn mc, .slice sp sn sc] 25)).alloc (.cells #[.int .i64 s.id, .int .i64 s.ow, .int .i64 s.kd, .int .i64 s.px, .int .i64 s.py, .int .i64 s.pz, .int .i64 s.vx, .int .i64 s.vy, .int .i64 s.vz, .int .i64 s.fu, .bool s.rs] 33)) := ((Below.refl _ _).alloc (Nat.le_refl _) _).alloc (by simp) _
  go_enter Try.func4, Try.ntmps4
  go_upto_region 1 with fail
  obtain ⟨mb, hmb⟩ : ∃ b, w.heap.size = b := ⟨_, rfl⟩
  have hwm : w.heap.size ≤ mb := by omega
  rw [hmb] at O P
  try simp only [hmb]
  generalize ((w.alloc (.cells #[.int .i64 W, .int .i64 D, .int .i64 H, .slice mp mn mc, .slice sp sn sc] 25)).alloc (.cells #[.int .i64 s.id, .int .i64 s.ow, .int .i64 s.kd, .int .i64 s.px, .int .i64 s.py, .int .i64 s.pz, .int .i64 s.vx, .int .i64 s.vy, .int .i64 s.vz, .int .i64 s.fu, .bool s.rs] 33)) = V0 at *
  clear hmb
  go_wp2_with fail
  refine (lawShown12 _).mono ?_; rintro e V1 ⟨rfl, bq⟩
  replace O := O.keep bq; replace P := P.keep bq; replace HB := btrans HB bq
  clear bq
  obtain ⟨cO0, cO1, cO2, cO3, cO4⟩ := O.cells
  go_wp2_with fail
  refine (HSM.out _ HB).mono ?_; rintro e V2 ⟨rfl, bq⟩
  clear cO0 cO1 cO2 cO3 cO4
  replace O := O.keep bq; replace P := P.keep bq; replace HB := btrans HB bq
  clear bq
  clear HSM
  cases sm with
  | false =>
    go_wp2
    go_ret
    exact ⟨rfl, HB⟩
  | true =>
    go_wp2_with (refine wpList_ldS (by rfl) _ rfl _ _ rfl (by assumption) ?_)
    refine (HNR.out _).mono ?_; rintro e V3 ⟨rfl, bq⟩
    replace O := O.keep bq; replace P := P.keep bq; replace HB := btrans HB bq
    clear bq
    clear HNR
    cases nb with
    | false =>
      go_wp2
      go_ret
      exact ⟨rfl, HB⟩
    | true =>
      have hin := hid (HNB.out rfl)
      clear HNB
      have ew1 : IntKind.i64.wrap ((m : Int) + (n : Int)) = ((m + n : Nat) : Int) := by have := HMN.out.1; have := HMN.out.2; rw [wrapI (by omega) (by omega)]; rfl
      obtain ⟨cO0, cO1, cO2, cO3, cO4⟩ := O.cells
      go_wp2_with (refine wpList_ldS (by rfl) _ rfl _ _ rfl (by assumption) ?_)
      refine (HA.out s hin.out.1 ((m + n : Nat) : Int) (by omega) (by have := HMN.out.1; have := HMN.out.2; omega) qa ja ta hqa.out _ HB).mono ?_; rintro e V4 ⟨rfl, bq⟩
      clear cO0 cO1 cO2 cO3 cO4
      replace O := O.keep bq; replace P := P.keep bq; replace HB := btrans HB bq
      clear bq
      clear ew1
      go_upto_region 7 with fail
      have lP := P.lt
      replace O := O.alloc (.cells #[.int .i64 qa.id, .int .i64 qa.ow, .int .i64 qa.kd, .int .i64 qa.px, .int .i64 qa.py, .int .i64 qa.pz, .int .i64 qa.vx, .int .i64 qa.vy, .int .i64 qa.vz, .int .i64 qa.fu, .bool qa.rs] 33)
      replace P := P.alloc (.cells #[.int .i64 qa.id, .int .i64 qa.ow, .int .i64 qa.kd, .int .i64 qa.px, .int .i64 qa.py, .int .i64 qa.pz, .int .i64 qa.vx, .int .i64 qa.vy, .int .i64 qa.vz, .int .i64 qa.fu, .bool qa.rs] 33)
      replace HB := HB.alloc HB.size (.cells #[.int .i64 qa.id, .int .i64 qa.ow, .int .i64 qa.kd, .int .i64 qa.px, .int .i64 qa.py, .int .i64 qa.pz, .int .i64 qa.vx, .int .i64 qa.vy, .int .i64 qa.vz, .int .i64 qa.fu, .bool qa.rs] 33)
      have A := ShAt.new V4 qa
      obtain ⟨ab, hab⟩ : ∃ b, V4.heap.size = b := ⟨_, rfl⟩
      rw [hab] at A lP
      try simp only [hab]
      generalize V4.alloc (.cells #[.int .i64 qa.id, .int .i64 qa.ow, .int .i64 qa.kd, .int .i64 qa.px, .int .i64 qa.py, .int .i64 qa.pz, .int .i64 qa.vx, .int .i64 qa.vy, .int .i64 qa.vz, .int .i64 qa.fu, .bool qa.rs] 33) = V5 at *
      clear hab
      obtain ⟨cO0, cO1, cO2, cO3, cO4⟩ := O.cells
      go_wp2_with (refine wpList_ldS (by rfl) _ rfl _ _ rfl (by assumption) ?_)
      refine (HA.out s hin.out.1 (m : Int) (by omega) (by have := HMN.out.1; have := HMN.out.2; omega) q1 j1 t1 hq1.out _ HB).mono ?_; rintro e V6 ⟨rfl, bq⟩
      clear cO0 cO1 cO2 cO3 cO4
      replace O := O.keep bq; replace P := P.keep bq; replace A := A.keep bq; replace HB := btrans HB bq
      clear bq
      go_upto_region 8 with fail
      have lA := A.lt
      replace O := O.alloc (.cells #[.int .i64 q1.id, .int .i64 q1.ow, .int .i64 q1.kd, .int .i64 q1.px, .int .i64 q1.py, .int .i64 q1.pz, .int .i64 q1.vx, .int .i64 q1.vy, .int .i64 q1.vz, .int .i64 q1.fu, .bool q1.rs] 33)
      replace P := P.alloc (.cells #[.int .i64 q1.id, .int .i64 q1.ow, .int .i64 q1.kd, .int .i64 q1.px, .int .i64 q1.py, .int .i64 q1.pz, .int .i64 q1.vx, .int .i64 q1.vy, .int .i64 q1.vz, .int .i64 q1.fu, .bool q1.rs] 33)
      replace A := A.alloc (.cells #[.int .i64 q1.id, .int .i64 q1.ow, .int .i64 q1.kd, .int .i64 q1.px, .int .i64 q1.py, .int .i64 q1.pz, .int .i64 q1.vx, .int .i64 q1.vy, .int .i64 q1.vz, .int .i64 q1.fu, .bool q1.rs] 33)
      replace HB := HB.alloc HB.size (.cells #[.int .i64 q1.id, .int .i64 q1.ow, .int .i64 q1.kd, .int .i64 q1.px, .int .i64 q1.py, .int .i64 q1.pz, .int .i64 q1.vx, .int .i64 q1.vy, .int .i64 q1.vz, .int .i64 q1.fu, .bool q1.rs] 33)
      have B := ShAt.new V6 q1
      obtain ⟨bb, hbb⟩ : ∃ b, V6.heap.size = b := ⟨_, rfl⟩
      rw [hbb] at B lA
      try simp only [hbb]
      generalize V6.alloc (.cells #[.int .i64 q1.id, .int .i64 q1.ow, .int .i64 q1.kd, .int .i64 q1.px, .int .i64 q1.py, .int .i64 q1.pz, .int .i64 q1.vx, .int .i64 q1.vy, .int .i64 q1.vz, .int .i64 q1.fu, .bool q1.rs] 33) = V7 at *
      clear hbb
      cases t1 with
      | true =>
        obtain ⟨eq, ej, et, hj⟩ := HT.out rfl
        subst eq; subst ej; subst et
        have hjm : (ja : Int) ≤ (m : Int) := by omega
        clear HT HU hj
        go_wp2_with (first | (refine wpList_ldS (by rfl) _ rfl _ _ rfl (by assumption) ?_) | (refine wpList_eqS (by rfl) _ _ _ rfl (qa) rfl rfl ?_))
        go_ret
        exact ⟨rfl, HB⟩
      | false =>
        have hu := hid (HU.out rfl)
        clear HT HU
        obtain ⟨cO0, cO1, cO2, cO3, cO4⟩ := O.cells
        go_wp2_with (refine wpList_ldS (by rfl) _ rfl _ _ rfl (by assumption) ?_)
        refine (HA.out q1 hin.out.2 (n : Int) (by omega) (by have := HMN.out.1; have := HMN.out.2; omega) q2 j2 t2 hq2.out _ HB).mono ?_; rintro e V8 ⟨rfl, bq⟩
        clear cO0 cO1 cO2 cO3 cO4
        replace O := O.keep bq; replace P := P.keep bq; replace A := A.keep bq; replace B := B.keep bq; replace HB := btrans HB bq
        clear bq
        go_upto_region 11 with fail
        have lB := B.lt
        replace O := O.alloc (.cells #[.int .i64 q2.id, .int .i64 q2.ow, .int .i64 q2.kd, .int .i64 q2.px, .int .i64 q2.py, .int .i64 q2.pz, .int .i64 q2.vx, .int .i64 q2.vy, .int .i64 q2.vz, .int .i64 q2.fu, .bool q2.rs] 33)
        replace P := P.alloc (.cells #[.int .i64 q2.id, .int .i64 q2.ow, .int .i64 q2.kd, .int .i64 q2.px, .int .i64 q2.py, .int .i64 q2.pz, .int .i64 q2.vx, .int .i64 q2.vy, .int .i64 q2.vz, .int .i64 q2.fu, .bool q2.rs] 33)
        replace A := A.alloc (.cells #[.int .i64 q2.id, .int .i64 q2.ow, .int .i64 q2.kd, .int .i64 q2.px, .int .i64 q2.py, .int .i64 q2.pz, .int .i64 q2.vx, .int .i64 q2.vy, .int .i64 q2.vz, .int .i64 q2.fu, .bool q2.rs] 33)
        replace B := B.alloc (.cells #[.int .i64 q2.id, .int .i64 q2.ow, .int .i64 q2.kd, .int .i64 q2.px, .int .i64 q2.py, .int .i64 q2.pz, .int .i64 q2.vx, .int .i64 q2.vy, .int .i64 q2.vz, .int .i64 q2.fu, .bool q2.rs] 33)
        replace HB := HB.alloc HB.size (.cells #[.int .i64 q2.id, .int .i64 q2.ow, .int .i64 q2.kd, .int .i64 q2.px, .int .i64 q2.py, .int .i64 q2.pz, .int .i64 q2.vx, .int .i64 q2.vy, .int .i64 q2.vz, .int .i64 q2.fu, .bool q2.rs] 33)
        have C := ShAt.new V8 q2
        obtain ⟨cb, hcb⟩ : ∃ b, V8.heap.size = b := ⟨_, rfl⟩
        rw [hcb] at C lB
        try simp only [hcb]
        generalize V8.alloc (.cells #[.int .i64 q2.id, .int .i64 q2.ow, .int .i64 q2.kd, .int .i64 q2.px, .int .i64 q2.py, .int .i64 q2.pz, .int .i64 q2.vx, .int .i64 q2.vy, .int .i64 q2.vz, .int .i64 q2.fu, .bool q2.rs] 33) = V9 at *
        clear hcb
        obtain ⟨cO0, cO1, cO2, cO3, cO4⟩ := O.cells
        have ew2 : IntKind.i64.wrap (-(m : Int)) = -(m : Int) := by have := HMN.out.1; exact wrapI (by omega) (by omega)
        have e0 : (-(m : Int)).toNat = 0 := by omega
        go_wp2_with (refine wpList_ldS (by rfl) _ rfl _ _ rfl (by assumption) ?_)
        refine (HA.out s hin.out.1 (-(m : Int)) (by have := HMN.out.1; omega) (by have := HMN.out.1; have := HMN.out.2; omega) s 0 false (by rw [e0]; rfl) _ HB).mono ?_; rintro e V10 ⟨rfl, bq⟩
        clear cO0 cO1 cO2 cO3 cO4
        replace O := O.keep bq; replace P := P.keep bq; replace A := A.keep bq; replace B := B.keep bq; replace C := C.keep bq; replace HB := btrans HB bq
        clear bq
        clear ew2
        go_upto_region 12 with fail
        have lC := C.lt
        replace O := O.alloc (.cells #[.int .i64 s.id, .int .i64 s.ow, .int .i64 s.kd, .int .i64 s.px, .int .i64 s.py, .int .i64 s.pz, .int .i64 s.vx, .int .i64 s.vy, .int .i64 s.vz, .int .i64 s.fu, .bool s.rs] 33)
        replace P := P.alloc (.cells #[.int .i64 s.id, .int .i64 s.ow, .int .i64 s.kd, .int .i64 s.px, .int .i64 s.py, .int .i64 s.pz, .int .i64 s.vx, .int .i64 s.vy, .int .i64 s.vz, .int .i64 s.fu, .bool s.rs] 33)
        replace A := A.alloc (.cells #[.int .i64 s.id, .int .i64 s.ow, .int .i64 s.kd, .int .i64 s.px, .int .i64 s.py, .int .i64 s.pz, .int .i64 s.vx, .int .i64 s.vy, .int .i64 s.vz, .int .i64 s.fu, .bool s.rs] 33)
        replace B := B.alloc (.cells #[.int .i64 s.id, .int .i64 s.ow, .int .i64 s.kd, .int .i64 s.px, .int .i64 s.py, .int .i64 s.pz, .int .i64 s.vx, .int .i64 s.vy, .int .i64 s.vz, .int .i64 s.fu, .bool s.rs] 33)
        replace C := C.alloc (.cells #[.int .i64 s.id, .int .i64 s.ow, .int .i64 s.kd, .int .i64 s.px, .int .i64 s.py, .int .i64 s.pz, .int .i64 s.vx, .int .i64 s.vy, .int .i64 s.vz, .int .i64 s.fu, .bool s.rs] 33)
        replace HB := HB.alloc HB.size (.cells #[.int .i64 s.id, .int .i64 s.ow, .int .i64 s.kd, .int .i64 s.px, .int .i64 s.py, .int .i64 s.pz, .int .i64 s.vx, .int .i64 s.vy, .int .i64 s.vz, .int .i64 s.fu, .bool s.rs] 33)
        have D := ShAt.new V10 s
        obtain ⟨db, hdb⟩ : ∃ b, V10.heap.size = b := ⟨_, rfl⟩
        rw [hdb] at D lC
        try simp only [hdb]
        generalize V10.alloc (.cells #[.int .i64 s.id, .int .i64 s.ow, .int .i64 s.kd, .int .i64 s.px, .int .i64 s.py, .int .i64 s.pz, .int .i64 s.vx, .int .i64 s.vy, .int .i64 s.vz, .int .i64 s.fu, .bool s.rs] 33) = V11 at *
        clear hdb
        obtain ⟨eq, ej, et, hj⟩ := hu.out
        subst eq; subst ej; subst et; subst hj
        have ew3 : IntKind.i64.wrap ((j1 : Int) + (j2 : Int)) = ((j1 + j2 : Nat) : Int) := by have := HJ.out.2.1; have := HJ.out.2.2; rw [wrapI (by omega) (by omega)]; rfl
        have EJ := hid (show ((j1 + j2 : Nat) : Int) = (j1 : Int) + (j2 : Int) from by omega)
        have ew4 : IntKind.i64.wrap (j2 : Int) = (j2 : Int) := by have := HJ.out.2.2; exact wrapI (by omega) (by omega)
        clear e0 hu HJ hqa hq1 hq2 HMN HA hin HM hm hn
        generalize ((j1 + j2 : Nat) : Int) = J at *
        generalize (j1 : Int) = n1 at *
        generalize (j2 : Int) = n2 at *
        clear EJ ew4
        obtain ⟨d0, h1⟩ : ∃ d, (n1 == 0) = d := ⟨_, rfl⟩
        cases d0 with
        | false =>
          go_wp2_with (first | (refine wpList_ldS (by rfl) _ rfl _ _ rfl (by assumption) ?_) | (refine wpList_eqS (by rfl) _ _ _ rfl (qa) rfl rfl ?_) | (refine wpList_eqS (by rfl) _ _ _ rfl (s) rfl rfl ?_))
          go_ret
          exact ⟨by simp, HB⟩
        | true =>
          go_wp2_with (first | ((with_reducible (show wpList _ _ _ (⟨some 98, _, _, _, _, _⟩ :: _) _ _)); refine wpList_ldS (by rfl) _ rfl _ _ rfl (by assumption) ?_) | ((with_reducible (show wpList _ _ _ (⟨some 99, _, _, _, _, _⟩ :: _) _ _)); refine wpList_ldS (by rfl) _ rfl _ _ rfl (by assumption) ?_) | ((with_reducible (show wpList _ _ _ (⟨some 100, _, _, _, _, _⟩ :: _) _ _)); refine wpList_eqS (by rfl) _ _ _ rfl (qa) rfl rfl ?_))
          go_ret
          exact ⟨by simp, HB⟩
end Go.Proofs.Ythcmcjklhcfenaa
