/- Layer 12 (shot): what must be in any case (shown). -/
import Derived.Test.YthcmcjklhcfenaaShH
import Derived.Test.YthcmcjklhcfenaaShD
import Derived.Test.YthcmcjklhcfenaaShF
namespace Go.Proofs.Ythcmcjklhcfenaa
open Go.RowKit
set_option linter.unusedVariables false
set_option linter.unusedSimpArgs false
attribute [local go_sem ↓] Go.wp_at_zero Go.wp_at_succ

theorem Bs.allocS {w : World} {g N cap : Nat} {f : Nat → Bool} (h : Bs w g N cap f) (o : Obj) : Bs (w.alloc o) g N cap f := h.keep ((Below.refl _ _).alloc (Nat.le_refl _) o)
theorem shown_new : newS 4 1 0 196608 196608 196608 65536 0 0 = ((⟨4, 1, 0, 196608, 196608, 196608, 26214, 0, 0, 200, false⟩ : Sh), 0) := by decide +kernel
theorem shown_not : newS 4 1 0 196608 196608 196608 0 0 0 = (noSh, 1) := by decide +kernel
theorem shown_adv : adv (mpOf 6 6 6 216 (flo 36)).sol (100 : Int).toNat (⟨4, 1, 0, 196608, 196608, 196608, 26214, 0, 0, 200, false⟩ : Sh) = ((⟨4, 1, 0, 380106, 196608, 196608, 26214, 0, 0, 192, false⟩ : Sh), 8, true) := by decide +kernel
theorem shown_in : (⟨4, 1, 0, 196608, 196608, 196608, 26214, 0, 0, 200, false⟩ : Sh).In 500000000 5000000 := by constructor <;> decide
set_option maxRecDepth 100000 in
set_option maxHeartbeats 8000000 in
theorem lawShown12 (w : World) : Calls Try.prog 8 #[] w fun e w' => e = .returned (.bool true) ∧ Below w.heap.size w w' := by
  go_enter Try.func8, Try.ntmps8
  go_wp2_with fail
  refine (lawHall12 _).mono ?_; rintro e V1 ⟨⟨g, sg, S, P, hg, hsg, hne, rfl⟩, HB⟩
  replace P := P.o3
  go_upto_region 2 with fail
  have lP := P.lt
  have lS := S.lt
  replace S := S.allocS (.cells #[.int .i64 6, .int .i64 6, .int .i64 6, .slice (some ⟨g, 0, none⟩) 216 216, .slice (some ⟨sg, 0, none⟩) 1 1] 25)
  replace P := P.alloc (.cells #[.int .i64 6, .int .i64 6, .int .i64 6, .slice (some ⟨g, 0, none⟩) 216 216, .slice (some ⟨sg, 0, none⟩) 1 1] 25)
  replace HB := HB.alloc HB.size (.cells #[.int .i64 6, .int .i64 6, .int .i64 6, .slice (some ⟨g, 0, none⟩) 216 216, .slice (some ⟨sg, 0, none⟩) 1 1] 25)
  have O := O5.new V1 (.int .i64 6) (.int .i64 6) (.int .i64 6) (.slice (some ⟨g, 0, none⟩) 216 216) (.slice (some ⟨sg, 0, none⟩) 1 1)
  obtain ⟨mb, hmb⟩ : ∃ b, V1.heap.size = b := ⟨_, rfl⟩
  rw [hmb] at O lP lS
  try simp only [hmb]
  generalize V1.alloc (.cells #[.int .i64 6, .int .i64 6, .int .i64 6, .slice (some ⟨g, 0, none⟩) 216 216, .slice (some ⟨sg, 0, none⟩) 1 1] 25) = V2 at *
  clear hmb
  obtain ⟨cO0, cO1, cO2, cO3, cO4⟩ := O.cells
  obtain ⟨cP0, cP1, cP2⟩ := P.cells
  go_wp2_with fail
  refine (shotNew 4 1 0 196608 196608 196608 65536 0 0 (i64_in (by omega) (by omega)) (i64_in (by omega) (by omega)) (i64_in (by omega) (by omega)) _ _ shown_new _).mono ?_; rintro e V3 ⟨rfl, bq⟩
  clear cO0 cO1 cO2 cO3 cO4 cP0 cP1 cP2
  replace S := S.keep bq; replace P := P.keep bq; replace O := O.keep bq; replace HB := btrans HB bq
  clear bq
  go_upto_region 3 with fail
  have lO := O.lt
  replace S := S.allocS (.cells #[.int .i64 4, .int .i64 1, .int .i64 0, .int .i64 196608, .int .i64 196608, .int .i64 196608, .int .i64 26214, .int .i64 0, .int .i64 0, .int .i64 200, .bool false] 33)
  replace P := P.alloc (.cells #[.int .i64 4, .int .i64 1, .int .i64 0, .int .i64 196608, .int .i64 196608, .int .i64 196608, .int .i64 26214, .int .i64 0, .int .i64 0, .int .i64 200, .bool false] 33)
  replace O := O.alloc (.cells #[.int .i64 4, .int .i64 1, .int .i64 0, .int .i64 196608, .int .i64 196608, .int .i64 196608, .int .i64 26214, .int .i64 0, .int .i64 0, .int .i64 200, .bool false] 33)
  replace HB := HB.alloc HB.size (.cells #[.int .i64 4, .int .i64 1, .int .i64 0, .int .i64 196608, .int .i64 196608, .int .i64 196608, .int .i64 26214, .int .i64 0, .int .i64 0, .int .i64 200, .bool false] 33)
  have A := ShAt.new V3 (⟨4, 1, 0, 196608, 196608, 196608, 26214, 0, 0, 200, false⟩ : Sh)
  obtain ⟨ab, hab⟩ : ∃ b, V3.heap.size = b := ⟨_, rfl⟩
  rw [hab] at A lO
  try simp only [hab]
  generalize V3.alloc (.cells #[.int .i64 4, .int .i64 1, .int .i64 0, .int .i64 196608, .int .i64 196608, .int .i64 196608, .int .i64 26214, .int .i64 0, .int .i64 0, .int .i64 200, .bool false] 33) = V4 at *
  clear hab
  obtain ⟨cO0, cO1, cO2, cO3, cO4⟩ := O.cells
  go_wp2_with (refine wpList_ldS (by rfl) _ rfl _ _ rfl (by assumption) ?_)
  refine (shotAdvance 6 6 6 (some ⟨g, 0, none⟩) 216 216 (flo 36) (some ⟨sg, 0, none⟩) 1 1 (⟨4, 1, 0, 196608, 196608, 196608, 26214, 0, 0, 200, false⟩ : Sh) shown_in 100 (by omega) (by omega) (⟨4, 1, 0, 380106, 196608, 196608, 26214, 0, 0, 192, false⟩ : Sh) 8 true shown_adv _ S.arg).mono ?_; rintro e V5 ⟨rfl, bq⟩
  clear cO0 cO1 cO2 cO3 cO4
  replace S := S.keep bq; replace P := P.keep bq; replace O := O.keep bq; replace A := A.keep bq; replace HB := btrans HB bq
  clear bq
  go_upto_region 4 with fail
  have lA := A.lt
  replace S := S.allocS (.cells #[.int .i64 4, .int .i64 1, .int .i64 0, .int .i64 380106, .int .i64 196608, .int .i64 196608, .int .i64 26214, .int .i64 0, .int .i64 0, .int .i64 192, .bool false] 33)
  replace P := P.alloc (.cells #[.int .i64 4, .int .i64 1, .int .i64 0, .int .i64 380106, .int .i64 196608, .int .i64 196608, .int .i64 26214, .int .i64 0, .int .i64 0, .int .i64 192, .bool false] 33)
  replace O := O.alloc (.cells #[.int .i64 4, .int .i64 1, .int .i64 0, .int .i64 380106, .int .i64 196608, .int .i64 196608, .int .i64 26214, .int .i64 0, .int .i64 0, .int .i64 192, .bool false] 33)
  replace A := A.alloc (.cells #[.int .i64 4, .int .i64 1, .int .i64 0, .int .i64 380106, .int .i64 196608, .int .i64 196608, .int .i64 26214, .int .i64 0, .int .i64 0, .int .i64 192, .bool false] 33)
  replace HB := HB.alloc HB.size (.cells #[.int .i64 4, .int .i64 1, .int .i64 0, .int .i64 380106, .int .i64 196608, .int .i64 196608, .int .i64 26214, .int .i64 0, .int .i64 0, .int .i64 192, .bool false] 33)
  have B := ShAt.new V5 (⟨4, 1, 0, 380106, 196608, 196608, 26214, 0, 0, 192, false⟩ : Sh)
  obtain ⟨bb, hbb⟩ : ∃ b, V5.heap.size = b := ⟨_, rfl⟩
  rw [hbb] at B lA
  try simp only [hbb]
  generalize V5.alloc (.cells #[.int .i64 4, .int .i64 1, .int .i64 0, .int .i64 380106, .int .i64 196608, .int .i64 196608, .int .i64 26214, .int .i64 0, .int .i64 0, .int .i64 192, .bool false] 33) = V6 at *
  clear hbb
  obtain ⟨cO0, cO1, cO2, cO3, cO4⟩ := O.cells
  obtain ⟨cP0, cP1, cP2⟩ := P.cells
  go_wp2_with fail
  refine (shotNew 4 1 0 196608 196608 196608 0 0 0 (i64_in (by omega) (by omega)) (i64_in (by omega) (by omega)) (i64_in (by omega) (by omega)) _ _ shown_not _).mono ?_; rintro e V7 ⟨rfl, bq⟩
  clear cO0 cO1 cO2 cO3 cO4 cP0 cP1 cP2
  replace S := S.keep bq; replace P := P.keep bq; replace O := O.keep bq; replace A := A.keep bq; replace B := B.keep bq; replace HB := btrans HB bq
  clear bq
  go_upto_region 5 with fail
  have lB := B.lt
  replace S := S.allocS (.cells #[.int .i64 noSh.id, .int .i64 noSh.ow, .int .i64 noSh.kd, .int .i64 noSh.px, .int .i64 noSh.py, .int .i64 noSh.pz, .int .i64 noSh.vx, .int .i64 noSh.vy, .int .i64 noSh.vz, .int .i64 noSh.fu, .bool noSh.rs] 33)
  replace P := P.alloc (.cells #[.int .i64 noSh.id, .int .i64 noSh.ow, .int .i64 noSh.kd, .int .i64 noSh.px, .int .i64 noSh.py, .int .i64 noSh.pz, .int .i64 noSh.vx, .int .i64 noSh.vy, .int .i64 noSh.vz, .int .i64 noSh.fu, .bool noSh.rs] 33)
  replace O := O.alloc (.cells #[.int .i64 noSh.id, .int .i64 noSh.ow, .int .i64 noSh.kd, .int .i64 noSh.px, .int .i64 noSh.py, .int .i64 noSh.pz, .int .i64 noSh.vx, .int .i64 noSh.vy, .int .i64 noSh.vz, .int .i64 noSh.fu, .bool noSh.rs] 33)
  replace A := A.alloc (.cells #[.int .i64 noSh.id, .int .i64 noSh.ow, .int .i64 noSh.kd, .int .i64 noSh.px, .int .i64 noSh.py, .int .i64 noSh.pz, .int .i64 noSh.vx, .int .i64 noSh.vy, .int .i64 noSh.vz, .int .i64 noSh.fu, .bool noSh.rs] 33)
  replace B := B.alloc (.cells #[.int .i64 noSh.id, .int .i64 noSh.ow, .int .i64 noSh.kd, .int .i64 noSh.px, .int .i64 noSh.py, .int .i64 noSh.pz, .int .i64 noSh.vx, .int .i64 noSh.vy, .int .i64 noSh.vz, .int .i64 noSh.fu, .bool noSh.rs] 33)
  replace HB := HB.alloc HB.size (.cells #[.int .i64 noSh.id, .int .i64 noSh.ow, .int .i64 noSh.kd, .int .i64 noSh.px, .int .i64 noSh.py, .int .i64 noSh.pz, .int .i64 noSh.vx, .int .i64 noSh.vy, .int .i64 noSh.vz, .int .i64 noSh.fu, .bool noSh.rs] 33)
  have C := ShAt.new V7 noSh
  obtain ⟨cb, hcb⟩ : ∃ b, V7.heap.size = b := ⟨_, rfl⟩
  rw [hcb] at C lB
  try simp only [hcb]
  generalize V7.alloc (.cells #[.int .i64 noSh.id, .int .i64 noSh.ow, .int .i64 noSh.kd, .int .i64 noSh.px, .int .i64 noSh.py, .int .i64 noSh.pz, .int .i64 noSh.vx, .int .i64 noSh.vy, .int .i64 noSh.vz, .int .i64 noSh.fu, .bool noSh.rs] 33) = V8 at *
  clear hcb
  obtain ⟨cA0, cA1, cA2, cA3, cA4, cA5, cA6, cA7, cA8, cA9, cA10⟩ := A.cells
  obtain ⟨cB0, cB1, cB2, cB3, cB4, cB5, cB6, cB7, cB8, cB9, cB10⟩ := B.cells
  dsimp only at cA0 cA1 cA2 cA3 cA4 cA5 cA6 cA7 cA8 cA9 cA10 cB0 cB1 cB2 cB3 cB4 cB5 cB6 cB7 cB8 cB9 cB10
  go_wp2
  go_ret
  exact ⟨rfl, HB⟩

end Go.Proofs.Ythcmcjklhcfenaa
