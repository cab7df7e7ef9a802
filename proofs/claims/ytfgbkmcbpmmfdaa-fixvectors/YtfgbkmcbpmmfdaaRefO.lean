/- Layer 1's own answers (embrasureref01): Long. -/
import Derived.Test.YtfgbkmcbpmmfdaaRefN
namespace Go.Proofs.Ytfgbkmcbpmmfdaa
open Go.RowKit
set_option linter.unusedVariables false
attribute [local go_sem ↓] Go.wp_at_zero Go.wp_at_succ

theorem VS.start1 (w : World) (a1 a2 a3 : Int) (T : TypeId) : VS (w.alloc (.cells #[.int .i64 a1, .int .i64 a2, .int .i64 a3] T)) w.heap.size w.heap.size a1 a2 a3 a1 a2 a3 (w.alloc (.cells #[.int .i64 a1, .int .i64 a2, .int .i64 a3] T)).drew :=
  ⟨by simp [go_sem], by simp [go_sem], by simp [go_sem], by simp [go_sem], by simp [go_sem], by simp [go_sem], (Below.refl _ _).drew⟩
theorem TS.alloc {B W : World} {x y z : Nat} {u1 u2 u3 : Bool} {v1 v2 v3 : Value} (hx : x < B.heap.size) (hy : y < B.heap.size) (hz : z < B.heap.size) (h : TS B x y z u1 u2 u3 v1 v2 v3 W) (o : Obj) : TS B x y z u1 u2 u3 v1 v2 v3 (W.alloc o) := h.keep hx hy hz ((Below.refl _ _).alloc (Nat.le_refl _) _)
theorem TS.set {B W : World} {x y z b : Nat} {u1 u2 u3 : Bool} {v1 v2 v3 : Value} (hx : x < B.heap.size) (hy : y < B.heap.size) (hz : z < B.heap.size) (h : TS B x y z u1 u2 u3 v1 v2 v3 W) (hn : B.heap.size ≤ b) (p q : Value) : TS B x y z u1 u2 u3 v1 v2 v3 ((W.setCell ⟨b, 0, none⟩ p).setCell ⟨b, 1, none⟩ q) := by
  obtain ⟨h1, h2, h3, h4, h5, h6, h7⟩ := h
  exact ⟨old_set (old_set h1 (by omega)) (by omega), old_set (old_set h2 (by omega)) (by omega), old_set (old_set h3 (by omega)) (by omega), old_set (old_set h4 (by omega)) (by omega), old_set (old_set h5 (by omega)) (by omega), old_set (old_set h6 (by omega)) (by omega), (h7.setCell hn _).setCell hn _⟩
theorem mag_sq (a : Int) : mag a * mag a = a * a := by unfold mag; split <;> simp [Int.neg_mul, Int.mul_neg]
theorem rlong_fin {a1 a2 a3 R : Int} {u : Bool} {zs : List Nat} (h1 : I64 a1) (h2 : I64 a2) (h3 : I64 a3) (hR : flong a1 a2 a3 = R) (hv : sgn u (val zs) = a1 * a1 + a2 * a2 + a3 * a3) :
    ∃ G : Nat, grGo (fun x => x * x) (val zs) 64 0 = G ∧ ((9223372036854775807 < G ∧ R = 9223372036854775807) ∨ (G ≤ 9223372036854775807 ∧ R = (G : Int))) := by
  have q1 := sq_u128 h1; have q2 := sq_u128 h2; have q3 := sq_u128 h3
  have e : grGo (fun x => x * x) (val zs) 64 0 = root (val zs) := grGo_root _ _ _
  unfold flong at hR
  rw [← mag_sq a1, ← mag_sq a2, ← mag_sq a3] at hv
  generalize mag a1 * mag a1 = A at *
  generalize mag a2 * mag a2 = B at *
  generalize mag a3 * mag a3 = C at *
  have hz : ((val zs : Nat) : Int) = A + B + C := by
    cases u
    · exact hv
    · have : -((val zs : Nat) : Int) = A + B + C := hv
      omega
  have e2 : (A + B + C).toNat = val zs := by omega
  rw [e2] at hR
  refine ⟨_, e, ?_⟩
  generalize root (val zs) = G at *
  unfold sat at hR
  by_cases h : 9223372036854775807 < G
  · rw [if_pos (by omega)] at hR; exact .inl ⟨h, hR.symm⟩
  · rw [if_neg (by omega), if_neg (by omega)] at hR; exact .inr ⟨by omega, hR.symm⟩
set_option maxHeartbeats 4000000 in
theorem refLong (a1 a2 a3 : Int) (ha1 : I64 a1) (ha2 : I64 a2) (ha3 : I64 a3) (w : World) :
    Calls Try.prog 37 #[.agg #[.int .i64 a1, .int .i64 a2, .int .i64 a3]] w fun e w' => e = .returned (.int .i64 (flong a1 a2 a3)) ∧ Below w.heap.size w w' := by
  obtain ⟨R, hR⟩ : ∃ R, flong a1 a2 a3 = R := ⟨_, rfl⟩
  have HR : Hid _ := hR
  rw [hR]
  clear hR
  have hst := VS.start1 w a1 a2 a3 27
  have hBW : Below w.heap.size w (w.alloc (.cells #[.int .i64 a1, .int .i64 a2, .int .i64 a3] 27)) := (Below.refl _ _).alloc (Nat.le_refl _) _
  have hp : w.heap.size < (w.alloc (.cells #[.int .i64 a1, .int .i64 a2, .int .i64 a3] 27)).heap.size := by simp
  go_enter Try.func37, Try.ntmps37
  generalize hBe : w.alloc (.cells #[.int .i64 a1, .int .i64 a2, .int .i64 a3] 27) = B at *
  have HBE : Hid _ := hBe
  clear hBe
  go_upto_region 1 with fail
  rw [HBE.out]
  go_cut [3] (fun x W => ∃ b, x = .pointer (some ⟨b, 0, none⟩) ∧ PB W b (a1 * a1) 9 ∧ VS B w.heap.size w.heap.size a1 a2 a3 a1 a2 a3 W)
  case first =>
    unfold VS at hst
    go_region_held3 (fun W => W.cell? ⟨w.heap.size, 0, none⟩ = some (.int .i64 a1) ∧ W.cell? ⟨w.heap.size, 1, none⟩ = some (.int .i64 a2) ∧ W.cell? ⟨w.heap.size, 2, none⟩ = some (.int .i64 a3) ∧ W.cell? ⟨w.heap.size, 0, none⟩ = some (.int .i64 a1) ∧ W.cell? ⟨w.heap.size, 1, none⟩ = some (.int .i64 a2) ∧ W.cell? ⟨w.heap.size, 2, none⟩ = some (.int .i64 a3) ∧ Below B.heap.size B W)
      (first | assumption | exact VS.keep hp hp (by assumption) (by assumption) | exact VS.alloc hp hp (by assumption) _ | exact VS.set hp hp (by assumption) (by assumption) _ _)
      (first
        | (go_at_call 42; refine (bOf _ (by assumption) _).mono ?_; rintro e w2 ⟨⟨s, c, k, xs, rfl, hx⟩, bl⟩; first | have nb := NB.of0 bl | have nb := NB.of (B := B) bl (size_drew (by assumption)) | have nb := NB.keep bl nb | skip)
        | (go_at_call 49; refine (bProduct (by first | assumption | exact BigIs.keep (by assumption) (by assumption) | exact BigIs.keep (BigIs.keep (by assumption) ((Below.refl _ _).alloc (Nat.le_refl _) _)) (by assumption) | exact BigIs.keep (BigIs.keep (by assumption) (by assumption)) ((Below.refl _ _).alloc (Nat.le_refl _) _)) (by first | assumption | exact BigIs.keep (by assumption) ((Below.refl _ _).alloc (Nat.le_refl _) _)) (by decide) (by decide)).mono ?_; rintro e w3 ⟨⟨u, c3, k3, zs, rfl, hz, hf⟩, bl3⟩; have hS3 := VS.keep hp hp bl3 (by assumption); first | (have nb3 := NB.of (B := B) bl3 (Nat.le_trans (size_drew (by assumption)) (Below.size (by assumption))); obtain ⟨n0, n1, n2, n3, n4, n5⟩ := id nb3) | (have nb3 := NB.keep bl3 nb; obtain ⟨n0, n1, n2, n3, n4, n5⟩ := id nb3) | skip))
    all_goals
      rename_i hH
      go_wp2
      go_meet
      case rel => first | exact ⟨_, rfl, PB.new hz _, hH⟩ | exact ⟨_, rfl, PB.set nb3 hz hf nb.2.1, hH⟩ | exact ⟨_, rfl, PB.set nb3 hz hf (by simp), hH⟩
  case rest =>
    obtain ⟨x, rfl, px, hv1⟩ := hcut
    have B1 := hv1.2.2.2.2.2.2
    have hst1 := hv1.anew hp hp (Below.refl _ _)
    have hp1 := Nat.lt_of_lt_of_le hp B1.size
    have BW1 := btrans hBW B1
    clear hv1 hst hp hBW B1 HBE
    obtain ⟨W1, hWW1⟩ : ∃ W, W = wc := ⟨_, rfl⟩
    subst hWW1
    go_upto_region 2 with fail
    go_cut [4] (fun x W => ∃ b, x = .pointer (some ⟨b, 0, none⟩) ∧ PB W b (a2 * a2) 9 ∧ VS W1 w.heap.size w.heap.size a1 a2 a3 a1 a2 a3 W)
    case first =>
      unfold VS at hst1
      go_region_held3 (fun W => W.cell? ⟨w.heap.size, 0, none⟩ = some (.int .i64 a1) ∧ W.cell? ⟨w.heap.size, 1, none⟩ = some (.int .i64 a2) ∧ W.cell? ⟨w.heap.size, 2, none⟩ = some (.int .i64 a3) ∧ W.cell? ⟨w.heap.size, 0, none⟩ = some (.int .i64 a1) ∧ W.cell? ⟨w.heap.size, 1, none⟩ = some (.int .i64 a2) ∧ W.cell? ⟨w.heap.size, 2, none⟩ = some (.int .i64 a3) ∧ Below W1.heap.size W1 W)
        (first | assumption | exact VS.keep hp1 hp1 (by assumption) (by assumption) | exact VS.alloc hp1 hp1 (by assumption) _ | exact VS.set hp1 hp1 (by assumption) (by assumption) _ _)
        (first
          | (go_at_call 42; refine (bOf _ (by assumption) _).mono ?_; rintro e w2 ⟨⟨s, c, k, xs, rfl, hx⟩, bl⟩; first | have nb := NB.of0 bl | have nb := NB.of (B := W1) bl (size_drew (by assumption)) | have nb := NB.keep bl nb | skip)
          | (go_at_call 49; refine (bProduct (by first | assumption | exact BigIs.keep (by assumption) (by assumption) | exact BigIs.keep (BigIs.keep (by assumption) ((Below.refl _ _).alloc (Nat.le_refl _) _)) (by assumption) | exact BigIs.keep (BigIs.keep (by assumption) (by assumption)) ((Below.refl _ _).alloc (Nat.le_refl _) _)) (by first | assumption | exact BigIs.keep (by assumption) ((Below.refl _ _).alloc (Nat.le_refl _) _)) (by decide) (by decide)).mono ?_; rintro e w3 ⟨⟨u, c3, k3, zs, rfl, hz, hf⟩, bl3⟩; have hS3 := VS.keep hp1 hp1 bl3 (by assumption); first | (have nb3 := NB.of (B := W1) bl3 (Nat.le_trans (size_drew (by assumption)) (Below.size (by assumption))); obtain ⟨n0, n1, n2, n3, n4, n5⟩ := id nb3) | (have nb3 := NB.keep bl3 nb; obtain ⟨n0, n1, n2, n3, n4, n5⟩ := id nb3) | skip))
      all_goals
        rename_i hH
        go_wp2
        go_meet
        case rel => first | exact ⟨_, rfl, PB.new hz _, hH⟩ | exact ⟨_, rfl, PB.set nb3 hz hf nb.2.1, hH⟩ | exact ⟨_, rfl, PB.set nb3 hz hf (by simp), hH⟩
    case rest =>
      obtain ⟨y, rfl, py, hv2⟩ := hcut
      have B2 := hv2.2.2.2.2.2.2
      have hst2 := hv2.anew hp1 hp1 (Below.refl _ _)
      have hp2 := Nat.lt_of_lt_of_le hp1 B2.size
      have BW2 := btrans BW1 B2
      have px2 := px.keep B2
      clear hv2 hst1 hp1 BW1 B2 px
      obtain ⟨W2, hWW2⟩ : ∃ W, W = wc := ⟨_, rfl⟩
      subst hWW2
      go_upto_region 3 with fail
      go_cut [5] (fun x W => ∃ b, x = .pointer (some ⟨b, 0, none⟩) ∧ PB W b (a3 * a3) 9 ∧ VS W2 w.heap.size w.heap.size a1 a2 a3 a1 a2 a3 W)
      case first =>
        unfold VS at hst2
        go_region_held3 (fun W => W.cell? ⟨w.heap.size, 0, none⟩ = some (.int .i64 a1) ∧ W.cell? ⟨w.heap.size, 1, none⟩ = some (.int .i64 a2) ∧ W.cell? ⟨w.heap.size, 2, none⟩ = some (.int .i64 a3) ∧ W.cell? ⟨w.heap.size, 0, none⟩ = some (.int .i64 a1) ∧ W.cell? ⟨w.heap.size, 1, none⟩ = some (.int .i64 a2) ∧ W.cell? ⟨w.heap.size, 2, none⟩ = some (.int .i64 a3) ∧ Below W2.heap.size W2 W)
          (first | assumption | exact VS.keep hp2 hp2 (by assumption) (by assumption) | exact VS.alloc hp2 hp2 (by assumption) _ | exact VS.set hp2 hp2 (by assumption) (by assumption) _ _)
          (first
            | (go_at_call 42; refine (bOf _ (by assumption) _).mono ?_; rintro e w2 ⟨⟨s, c, k, xs, rfl, hx⟩, bl⟩; first | have nb := NB.of0 bl | have nb := NB.of (B := W2) bl (size_drew (by assumption)) | have nb := NB.keep bl nb | skip)
            | (go_at_call 49; refine (bProduct (by first | assumption | exact BigIs.keep (by assumption) (by assumption) | exact BigIs.keep (BigIs.keep (by assumption) ((Below.refl _ _).alloc (Nat.le_refl _) _)) (by assumption) | exact BigIs.keep (BigIs.keep (by assumption) (by assumption)) ((Below.refl _ _).alloc (Nat.le_refl _) _)) (by first | assumption | exact BigIs.keep (by assumption) ((Below.refl _ _).alloc (Nat.le_refl _) _)) (by decide) (by decide)).mono ?_; rintro e w3 ⟨⟨u, c3, k3, zs, rfl, hz, hf⟩, bl3⟩; have hS3 := VS.keep hp2 hp2 bl3 (by assumption); first | (have nb3 := NB.of (B := W2) bl3 (Nat.le_trans (size_drew (by assumption)) (Below.size (by assumption))); obtain ⟨n0, n1, n2, n3, n4, n5⟩ := id nb3) | (have nb3 := NB.keep bl3 nb; obtain ⟨n0, n1, n2, n3, n4, n5⟩ := id nb3) | skip))
        all_goals
          rename_i hH
          go_wp2
          go_meet
          case rel => first | exact ⟨_, rfl, PB.new hz _, hH⟩ | exact ⟨_, rfl, PB.set nb3 hz hf nb.2.1, hH⟩ | exact ⟨_, rfl, PB.set nb3 hz hf (by simp), hH⟩
      case rest =>
        obtain ⟨z, rfl, pz, hv3⟩ := hcut
        have B3 := hv3.2.2.2.2.2.2
        have BW3 := btrans BW2 B3
        obtain ⟨lx, u1, c1, k1, xs, x0, x1, gx⟩ := px2.keep B3
        obtain ⟨ly, u2, c2, k2, ys, y0, y1, gy⟩ := py.keep B3
        obtain ⟨lz, u3, c3, k3, zs, z0, z1, gz⟩ := pz
        clear hv3 hst2 hp2 BW2 B3 px2 py
        obtain ⟨W3, hWW3⟩ : ∃ W, W = wc := ⟨_, rfl⟩
        subst hWW3
        have hst3 : TS W3 x y z u1 u2 u3 (.slice c1 xs.length k1) (.slice c2 ys.length k2) (.slice c3 zs.length k3) W3.drew := ⟨x0, x1, y0, y1, z0, z1, (Below.refl _ _).drew⟩
        clear x0 x1 y0 y1 z0 z1
        go_upto_region 4 with fail
        go_cut [6] (fun x W => ∃ b, x = .pointer (some ⟨b, 0, none⟩) ∧ PB W b (a1 * a1 + a2 * a2 + a3 * a3) 29 ∧ Below W3.heap.size W3 W)
        case first =>
          unfold TS at hst3
          go_region_held3 (fun W => W.cell? ⟨x, 0, none⟩ = some (.bool u1) ∧ W.cell? ⟨x, 1, none⟩ = some (.slice c1 xs.length k1) ∧ W.cell? ⟨y, 0, none⟩ = some (.bool u2) ∧ W.cell? ⟨y, 1, none⟩ = some (.slice c2 ys.length k2) ∧ W.cell? ⟨z, 0, none⟩ = some (.bool u3) ∧ W.cell? ⟨z, 1, none⟩ = some (.slice c3 zs.length k3) ∧ Below W3.heap.size W3 W)
            (first | assumption | exact TS.keep lx ly lz (by assumption) (by assumption) | exact TS.alloc lx ly lz (by assumption) _ | exact TS.set lx ly lz (by assumption) (by assumption) _ _)
            (first
              | (go_at_call 41; (first | have nbo := nb | skip); refine (bPlus (by first | exact gx.keep (by go_split_ands; assumption) | assumption | exact BigIs.keep (by assumption) ((Below.refl _ _).alloc (Nat.le_refl _) _)) (by first | exact gy.keep (by go_split_ands; assumption) | exact gz.keep (by go_split_ands; assumption)) (by decide) (by decide)).mono ?_; rintro e w5 ⟨⟨u, c, k, rs, rfl, hr, hf⟩, bl⟩; have hS3 := TS.keep lx ly lz bl (by assumption); first | (have nb := NB.of0 bl; obtain ⟨n0, n1, n2, n3, n4, n5⟩ := id nb) | (have nb := NB.of (B := W3) bl (size_drew (by assumption)); obtain ⟨n0, n1, n2, n3, n4, n5⟩ := id nb) | (have nb := NB.keep bl nbo; obtain ⟨n0, n1, n2, n3, n4, n5⟩ := id nb) | skip))
          all_goals
            rename_i hH
            go_wp2
            go_meet
            case rel => first | exact ⟨_, rfl, PB.new hr _, hH.2.2.2.2.2.2⟩ | exact ⟨_, rfl, PB.set nb hr hf nbo.2.1, hH.2.2.2.2.2.2⟩ | exact ⟨_, rfl, PB.set nb hr hf (by simp), hH.2.2.2.2.2.2⟩
        case rest =>
          obtain ⟨b, rfl, pb, B4⟩ := hcut
          have BW4 := btrans BW3 B4
          obtain ⟨lb, u, c, k, rs, d0, d1, gb⟩ := pb
          obtain ⟨G, hG, hcase⟩ := rlong_fin ha1 ha2 ha3 HR.out gb.v
          have HG : Hid _ := hG
          have HC : Hid _ := hcase
          clear hG hcase hst3 gx gy gz
          go_wp2_with fail
          refine (refGreatest true none c 0 k [] rs _ (row_nil _) gb.row (by simp) gb.t (fun x => x * x) sq_fun).mono ?_
          rintro e w5 ⟨rfl, b5⟩
          rw [HG.out]
          have hB := btrans BW4 b5
          clear gb d0 d1 b5 BW4 B4
          by_cases hg : 9223372036854775807 < G
          · have hr : R = 9223372036854775807 := by
              rcases HC.out with ⟨_, h⟩ | ⟨h, _⟩
              · exact h
              · omega
            have HE : Hid _ := hr
            have hg' : (9223372036854775807 : Int) < (G : Int) := by omega
            clear hr
            go_wp2
            go_ret
            exact ⟨ret_int HE.out.symm, hB⟩
          · have hr : R = (G : Int) := by
              rcases HC.out with ⟨h, _⟩ | ⟨_, h⟩
              · omega
              · exact h
            have HE : Hid _ := hr
            have hg' : ¬ (9223372036854775807 : Int) < (G : Int) := by omega
            clear hr
            go_wp2
            go_ret
            exact ⟨ret_int HE.out.symm, hB⟩
end Go.Proofs.Ytfgbkmcbpmmfdaa
