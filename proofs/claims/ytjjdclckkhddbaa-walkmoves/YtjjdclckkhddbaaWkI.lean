/- Layer 11 (walk): what must be in any case (shown). -/
import Derived.Test.YtjjdclckkhddbaaWkH
namespace Go.Proofs.Ytjjdclckkhddbaa
open Go.RowKit
set_option linter.unusedVariables false
set_option linter.unusedSimpArgs false
attribute [local go_sem ↓] Go.wp_at_zero Go.wp_at_succ

theorem fell_rt {R : Int → Int → Int → Bool} (hR : ∀ x y z, R x y z = true ↔ hallM.Room x y z) (n : Nat) : Rt R (fell n) := by
  induction n with
  | zero =>
    refine ⟨⟨⟨by decide, by decide⟩, ⟨by decide, by decide⟩, ⟨by decide, by decide⟩, ⟨by decide, by decide⟩, ⟨by decide, by decide⟩, ⟨by decide, by decide⟩⟩, ?_, ⟨by decide, by decide, by decide, by decide, by decide, by decide⟩⟩
    rw [hall_R hR ⟨by decide, by decide⟩ ⟨by decide, by decide⟩ ⟨by decide, by decide⟩]
    decide
  | succ n ih =>
    show Rt R (stepN hallR ⟨0, 0, 0, 0, 8⟩ 8 (fell n))
    rw [← hall_stepN hR _ 8 ih.w.x ih.w.y ih.w.z]
    exact stepN_right hR _ 8 ih
theorem fell_step {R : Int → Int → Int → Bool} (hR : ∀ x y z, R x y z = true ↔ hallM.Room x y z) (n : Nat) : step R (fell n) ⟨0, 0, 0, 0, 8⟩ = fell (n + 1) := by
  have ih := fell_rt hR n
  show stepN R ⟨0, 0, 0, 0, 8⟩ 8 (fell n) = stepN hallR ⟨0, 0, 0, 0, 8⟩ 8 (fell n)
  exact hall_stepN hR _ 8 ih.w.x ih.w.y ih.w.z
theorem fell_5 : fell 5 = fellTo 124928 0 true := by decide +kernel
def ranPl : Pl := ⟨1, 200704, 196608, 124928, 4096, 0, 0, true, 0, 0, 0, 0, 0, 0, 0⟩
theorem fell_ran {R : Int → Int → Int → Bool} (hR : ∀ x y z, R x y z = true ↔ hallM.Room x y z) : step R (fell 5) ⟨0, 0, 127, 0, 1⟩ = ranPl := by
  have ih := fell_rt hR 5
  have e : ∀ p, step R p ⟨0, 0, 127, 0, 1⟩ = stepN R ⟨0, 0, 127, 0, 1⟩ 1 p := fun _ => rfl
  rw [e, hall_stepN hR ⟨0, 0, 127, 0, 1⟩ 1 ih.w.x ih.w.y ih.w.z]
  clear e ih
  rw [fell_5]
  decide +kernel
theorem Bs.alloc {w : World} {g N cap : Nat} {f : Nat → Bool} (h : Bs w g N cap f) (o : Obj) : Bs (w.alloc o) g N cap f := h.keep ((Below.refl _ _).alloc (Nat.le_refl _) o)
set_option maxHeartbeats 4000000 in
theorem lawShown11 (w : World) : Calls Try.prog 9 #[] w fun e w' => e = .returned (.bool true) ∧ Below w.heap.size w w' := by
  obtain ⟨R, hR⟩ := hallM.roomOf
  have HRT := hid (fun n => fell_rt hR n)
  have HST := hid (fun n (p : Pl) (hp : fell n = p) (q : Pl) (hq : fell (n + 1) = q) => (show step R p ⟨0, 0, 0, 0, 8⟩ = q from hp ▸ hq ▸ fell_step hR n))
  have HRN := hid (fell_ran hR)
  go_enter Try.func9, Try.ntmps9
  go_wp2_with fail
  refine (lawHall _).mono ?_; rintro e V1 ⟨⟨g, sg, S, P, hg, hsg, hne, rfl⟩, HB⟩
  replace P := P.o3
  go_upto_region 2 with fail
  have lP := P.lt
  have lS := S.lt
  replace S := S.alloc (.cells #[.int .i64 6, .int .i64 6, .int .i64 6, .slice (some ⟨g, 0, none⟩) 216 216, .slice (some ⟨sg, 0, none⟩) 1 1] 25)
  replace P := P.alloc (.cells #[.int .i64 6, .int .i64 6, .int .i64 6, .slice (some ⟨g, 0, none⟩) 216 216, .slice (some ⟨sg, 0, none⟩) 1 1] 25)
  replace HB := HB.alloc HB.size (.cells #[.int .i64 6, .int .i64 6, .int .i64 6, .slice (some ⟨g, 0, none⟩) 216 216, .slice (some ⟨sg, 0, none⟩) 1 1] 25)
  have O := O5.new V1 (.int .i64 6) (.int .i64 6) (.int .i64 6) (.slice (some ⟨g, 0, none⟩) 216 216) (.slice (some ⟨sg, 0, none⟩) 1 1)
  obtain ⟨mb, hmb⟩ : ∃ b, V1.heap.size = b := ⟨_, rfl⟩
  rw [hmb] at O lP lS
  try simp only [hmb]
  generalize V1.alloc (.cells #[.int .i64 6, .int .i64 6, .int .i64 6, .slice (some ⟨g, 0, none⟩) 216 216, .slice (some ⟨sg, 0, none⟩) 1 1] 25) = V2 at *
  clear hmb
  skip
  obtain ⟨cO0, cO1, cO2, cO3, cO4⟩ := O.cells
  obtain ⟨cP0, cP1, cP2⟩ := P.cells
  go_upto_region 3 with fail
  clear cO0 cO1 cO2 cO3 cO4 cP0 cP1 cP2
  have lO := O.lt
  replace S := S.alloc (.cells #[.int .i64 1, .int .i64 196608, .int .i64 196608, .int .i64 196608, .int .i64 0, .int .i64 0, .int .i64 0, .bool false, .int .i64 0, .int .i64 0, .int .i64 0, .int .i64 0, .int .i64 0, .int .i64 0, .int .i64 0] 30)
  replace P := P.alloc (.cells #[.int .i64 1, .int .i64 196608, .int .i64 196608, .int .i64 196608, .int .i64 0, .int .i64 0, .int .i64 0, .bool false, .int .i64 0, .int .i64 0, .int .i64 0, .int .i64 0, .int .i64 0, .int .i64 0, .int .i64 0] 30)
  replace O := O.alloc (.cells #[.int .i64 1, .int .i64 196608, .int .i64 196608, .int .i64 196608, .int .i64 0, .int .i64 0, .int .i64 0, .bool false, .int .i64 0, .int .i64 0, .int .i64 0, .int .i64 0, .int .i64 0, .int .i64 0, .int .i64 0] 30)
  replace HB := HB.alloc HB.size (.cells #[.int .i64 1, .int .i64 196608, .int .i64 196608, .int .i64 196608, .int .i64 0, .int .i64 0, .int .i64 0, .bool false, .int .i64 0, .int .i64 0, .int .i64 0, .int .i64 0, .int .i64 0, .int .i64 0, .int .i64 0] 30)
  have L := (show PlAt (V2.alloc (.cells #[.int .i64 1, .int .i64 196608, .int .i64 196608, .int .i64 196608, .int .i64 0, .int .i64 0, .int .i64 0, .bool false, .int .i64 0, .int .i64 0, .int .i64 0, .int .i64 0, .int .i64 0, .int .i64 0, .int .i64 0] 30)) V2.heap.size (fell 0) from PlAt.new V2 (⟨1, 196608, 196608, 196608, 0, 0, 0, false, 0, 0, 0, 0, 0, 0, 0⟩ : Pl))
  obtain ⟨pb, hpb⟩ : ∃ b, V2.heap.size = b := ⟨_, rfl⟩
  rw [hpb] at L lO
  try simp only [hpb]
  generalize V2.alloc (.cells #[.int .i64 1, .int .i64 196608, .int .i64 196608, .int .i64 196608, .int .i64 0, .int .i64 0, .int .i64 0, .bool false, .int .i64 0, .int .i64 0, .int .i64 0, .int .i64 0, .int .i64 0, .int .i64 0, .int .i64 0] 30) = V3 at *
  clear hpb
  go_upto_region 4 with fail
  have lL := L.lt
  replace S := S.alloc (.cells #[.int .u16 0, .int .u8 0, .int .i8 0, .int .i8 0, .int .i64 8] 34)
  replace P := P.alloc (.cells #[.int .u16 0, .int .u8 0, .int .i8 0, .int .i8 0, .int .i64 8] 34)
  replace O := O.alloc (.cells #[.int .u16 0, .int .u8 0, .int .i8 0, .int .i8 0, .int .i64 8] 34)
  replace L := L.alloc (.cells #[.int .u16 0, .int .u8 0, .int .i8 0, .int .i8 0, .int .i64 8] 34)
  replace HB := HB.alloc HB.size (.cells #[.int .u16 0, .int .u8 0, .int .i8 0, .int .i8 0, .int .i64 8] 34)
  have C := (show CmAt (V3.alloc (.cells #[.int .u16 0, .int .u8 0, .int .i8 0, .int .i8 0, .int .i64 8] 34)) V3.heap.size ⟨0, 0, 0, 0, 8⟩ from CmAt.new V3 ⟨0, 0, 0, 0, 8⟩)
  obtain ⟨cb, hcb⟩ : ∃ b, V3.heap.size = b := ⟨_, rfl⟩
  rw [hcb] at C lL
  try simp only [hcb]
  generalize V3.alloc (.cells #[.int .u16 0, .int .u8 0, .int .i8 0, .int .i8 0, .int .i64 8] 34) = V4 at *
  clear hcb
  skip
  go_wp2
  go_loopw [4] (fun v wr => ∃ (i : Nat) (q : Pl) (V : World), v = .int .i64 i ∧ wr = V ∧ i ≤ 5 ∧ Hid (fell i = q) ∧ Bs V g 216 216 (flo 36) ∧ O5 V mb (.int .i64 6) (.int .i64 6) (.int .i64 6) (.slice (some ⟨g, 0, none⟩) 216 216) (.slice (some ⟨sg, 0, none⟩) 1 1) ∧ PlAt V pb q ∧ CmAt V cb ⟨0, 0, 0, 0, 8⟩ ∧ Below w.heap.size w V) (fun v _ => 5 - (intOf v).toNat)
  case atStart => exact ⟨0, _, _, rfl, rfl, Nat.zero_le _, hid rfl, S, O, L, C, HB⟩
  case round =>
    clear S O L C P HB
    obtain ⟨i, q, V, rfl, eV, hi, hq, S, O, L, C, HB⟩ := hrel
    subst eV
    by_cases h : i < 5
    · skip
      have hI : (i : Int) < 5 := by omega
      obtain ⟨q2, hq2⟩ : ∃ r, fell (i + 1) = r := ⟨_, rfl⟩
      have hst := hid (HST.out i q hq.out q2 hq2)
      have hrt := hid (hq.out ▸ HRT.out i : Rt R q)
      replace hq2 := hid hq2
      clear hq
      obtain ⟨cO0, cO1, cO2, cO3, cO4⟩ := O.cells
      obtain ⟨cL0, cL1, cL2, cL3, cL4, cL5, cL6, cL7, cL8, cL9, cL10, cL11, cL12, cL13, cL14⟩ := L.cells
      obtain ⟨cC0, cC1, cC2, cC3, cC4⟩ := C.cells
      go_wp2_with fail
      refine (walkStep 6 6 6 (some ⟨g, 0, none⟩) 216 216 (flo 36) (some ⟨sg, 0, none⟩) 1 1 R hR q hrt.out ⟨0, 0, 0, 0, 8⟩ ⟨by decide, by decide, by decide, by decide, by decide, by decide, ⟨by decide, by decide⟩⟩ q2 hst.out _ S.arg).mono ?_; rintro e V5 ⟨rfl, bq⟩
      clear cO0 cO1 cO2 cO3 cO4 cL0 cL1 cL2 cL3 cL4 cL5 cL6 cL7 cL8 cL9 cL10 cL11 cL12 cL13 cL14 cC0 cC1 cC2 cC3 cC4
      replace S := S.keep bq; replace O := O.keep bq; replace L := L.keep bq; replace C := C.keep bq; replace HB := btrans HB bq
      clear bq
      obtain ⟨cL0, cL1, cL2, cL3, cL4, cL5, cL6, cL7, cL8, cL9, cL10, cL11, cL12, cL13, cL14⟩ := L.cells
      obtain ⟨tL0, tL1, tL2, tL3, tL4, tL5, tL6, tL7, tL8, tL9, tL10, tL11, tL12, tL13, tL14⟩ := L.thaw
      go_wp2
      clear cL0 cL1 cL2 cL3 cL4 cL5 cL6 cL7 cL8 cL9 cL10 cL11 cL12 cL13 cL14 tL0 tL1 tL2 tL3 tL4 tL5 tL6 tL7 tL8 tL9 tL10 tL11 tL12 tL13 tL14
      replace S := S.fr (PlAt.allFr _ pb q2) (show ¬ (g = pb) by omega)
      replace O := O.fr (PlAt.allFr _ pb q2) (show ¬ (mb = pb) by omega)
      replace L := L.all q2
      replace C := C.fr (PlAt.allFr _ pb q2) (show ¬ (cb = pb) by omega)
      replace HB := below_fr HB (PlAt.allFr _ pb q2) (Nat.le_refl _) (by intro k hk; replace hk : k = pb := hk; omega)
      exact ⟨⟨i + 1, q2, _, by go_num, rfl, by omega, hq2, S, O, L, C, HB⟩, by simp [intOf]; omega⟩
    · skip
      obtain rfl : i = 5 := by omega
      have e5 : ((5 : Nat) : Int) = 5 := rfl
      have eq := fell_5.symm.trans hq.out
      subst eq
      have hst := hid (fell_5 ▸ HRN.out : step R (fellTo 124928 0 true) ⟨0, 0, 127, 0, 1⟩ = ranPl)
      have hrt := hid (fell_5 ▸ HRT.out 5 : Rt R (fellTo 124928 0 true))
      clear hq HRT HST HRN
      obtain ⟨cO0, cO1, cO2, cO3, cO4⟩ := O.cells
      obtain ⟨cL0, cL1, cL2, cL3, cL4, cL5, cL6, cL7, cL8, cL9, cL10, cL11, cL12, cL13, cL14⟩ := L.cells
      go_wp2_with fail
      refine (walkStep 6 6 6 (some ⟨g, 0, none⟩) 216 216 (flo 36) (some ⟨sg, 0, none⟩) 1 1 R hR (fellTo 124928 0 true) hrt.out ⟨0, 0, 127, 0, 1⟩ ⟨by decide, by decide, by decide, by decide, by decide, by decide, ⟨by decide, by decide⟩⟩ ranPl hst.out _ S.arg).mono ?_; rintro e V5 ⟨rfl, bq⟩
      clear cO0 cO1 cO2 cO3 cO4 cL0 cL1 cL2 cL3 cL4 cL5 cL6 cL7 cL8 cL9 cL10 cL11 cL12 cL13 cL14
      replace S := S.keep bq; replace O := O.keep bq; replace L := L.keep bq; replace C := C.keep bq; replace HB := btrans HB bq
      clear bq
      go_upto_region 9 with fail
      have lL := L.lt
      replace S := S.alloc (.cells #[.int .i64 ranPl.id, .int .i64 ranPl.px, .int .i64 ranPl.py, .int .i64 ranPl.pz, .int .i64 ranPl.vx, .int .i64 ranPl.vy, .int .i64 ranPl.vz, .bool ranPl.gr, .int .i64 ranPl.he, .int .i64 ranPl.ar, .int .i64 ranPl.sc, .int .i64 ranPl.a0, .int .i64 ranPl.a1, .int .i64 ranPl.wa, .int .i64 ranPl.de] 30)
      replace O := O.alloc (.cells #[.int .i64 ranPl.id, .int .i64 ranPl.px, .int .i64 ranPl.py, .int .i64 ranPl.pz, .int .i64 ranPl.vx, .int .i64 ranPl.vy, .int .i64 ranPl.vz, .bool ranPl.gr, .int .i64 ranPl.he, .int .i64 ranPl.ar, .int .i64 ranPl.sc, .int .i64 ranPl.a0, .int .i64 ranPl.a1, .int .i64 ranPl.wa, .int .i64 ranPl.de] 30)
      replace L := L.alloc (.cells #[.int .i64 ranPl.id, .int .i64 ranPl.px, .int .i64 ranPl.py, .int .i64 ranPl.pz, .int .i64 ranPl.vx, .int .i64 ranPl.vy, .int .i64 ranPl.vz, .bool ranPl.gr, .int .i64 ranPl.he, .int .i64 ranPl.ar, .int .i64 ranPl.sc, .int .i64 ranPl.a0, .int .i64 ranPl.a1, .int .i64 ranPl.wa, .int .i64 ranPl.de] 30)
      replace C := C.alloc (.cells #[.int .i64 ranPl.id, .int .i64 ranPl.px, .int .i64 ranPl.py, .int .i64 ranPl.pz, .int .i64 ranPl.vx, .int .i64 ranPl.vy, .int .i64 ranPl.vz, .bool ranPl.gr, .int .i64 ranPl.he, .int .i64 ranPl.ar, .int .i64 ranPl.sc, .int .i64 ranPl.a0, .int .i64 ranPl.a1, .int .i64 ranPl.wa, .int .i64 ranPl.de] 30)
      replace HB := HB.alloc HB.size (.cells #[.int .i64 ranPl.id, .int .i64 ranPl.px, .int .i64 ranPl.py, .int .i64 ranPl.pz, .int .i64 ranPl.vx, .int .i64 ranPl.vy, .int .i64 ranPl.vz, .bool ranPl.gr, .int .i64 ranPl.he, .int .i64 ranPl.ar, .int .i64 ranPl.sc, .int .i64 ranPl.a0, .int .i64 ranPl.a1, .int .i64 ranPl.wa, .int .i64 ranPl.de] 30)
      have N := PlAt.new V5 ranPl
      obtain ⟨nb, hnb⟩ : ∃ b, V5.heap.size = b := ⟨_, rfl⟩
      rw [hnb] at N lL
      try simp only [hnb]
      generalize V5.alloc (.cells #[.int .i64 ranPl.id, .int .i64 ranPl.px, .int .i64 ranPl.py, .int .i64 ranPl.pz, .int .i64 ranPl.vx, .int .i64 ranPl.vy, .int .i64 ranPl.vz, .bool ranPl.gr, .int .i64 ranPl.he, .int .i64 ranPl.ar, .int .i64 ranPl.sc, .int .i64 ranPl.a0, .int .i64 ranPl.a1, .int .i64 ranPl.wa, .int .i64 ranPl.de] 30) = V6 at *
      clear hnb
      have hr2 := hid (rtB_iff (R := R) (hst.out ▸ step_right hR hrt.out _ : Rt R ranPl).w |>.2 (hst.out ▸ step_right hR hrt.out _ : Rt R ranPl))
      obtain ⟨cO0, cO1, cO2, cO3, cO4⟩ := O.cells
      obtain ⟨cL0, cL1, cL2, cL3, cL4, cL5, cL6, cL7, cL8, cL9, cL10, cL11, cL12, cL13, cL14⟩ := L.cells
      obtain ⟨cN0, cN1, cN2, cN3, cN4, cN5, cN6, cN7, cN8, cN9, cN10, cN11, cN12, cN13, cN14⟩ := N.cells
      dsimp only [fellTo, ranPl] at cL0 cL1 cL2 cL3 cL4 cL5 cL6 cL7 cL8 cL9 cL10 cL11 cL12 cL13 cL14 cN0 cN1 cN2 cN3 cN4 cN5 cN6 cN7 cN8 cN9 cN10 cN11 cN12 cN13 cN14
      go_wp2_with fail
      refine (walkRight 6 6 6 (some ⟨g, 0, none⟩) 216 216 (flo 36) (some ⟨sg, 0, none⟩) 1 1 R hR ranPl (hst.out ▸ step_right hR hrt.out _ : Rt R ranPl).w true hr2.out _ S.arg).mono ?_; rintro e V7 ⟨rfl, bq⟩
      clear cO0 cO1 cO2 cO3 cO4 cL0 cL1 cL2 cL3 cL4 cL5 cL6 cL7 cL8 cL9 cL10 cL11 cL12 cL13 cL14 cN0 cN1 cN2 cN3 cN4 cN5 cN6 cN7 cN8 cN9 cN10 cN11 cN12 cN13 cN14
      replace S := S.keep bq; replace O := O.keep bq; replace L := L.keep bq; replace C := C.keep bq; replace N := N.keep bq; replace HB := btrans HB bq
      clear bq
      go_wp2
      go_ret
      exact ⟨rfl, HB⟩
end Go.Proofs.Ytjjdclckkhddbaa
