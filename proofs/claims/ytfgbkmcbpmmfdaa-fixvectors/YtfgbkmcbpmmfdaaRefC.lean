/- Layer 1's own answers (embrasureref01): times. -/
import Derived.Test.YtfgbkmcbpmmfdaaRefB
import Derived.Deep.OwnRows
namespace Go.Proofs.Ytfgbkmcbpmmfdaa
open Go.RowKit
set_option linter.unusedVariables false

/-- A row that may be written. -/
structure Out (W : World) (g : Nat) (ds : List Nat) : Prop where
  lt : g < W.heap.size
  digits : ∀ d ∈ ds, d < 65536
  cells : ∀ j, j < ds.length → W.cell? ⟨g, j, none⟩ = some (.int .u64 ((ds.getD j 0 : Nat) : Int))
  frozen : ∀ j, W.frozen? ⟨g, j, none⟩ = false
theorem Out.row {W : World} {g : Nat} {ds : List Nat} (h : Out W g ds) (hm : ds.length ≤ maxLen) : Row W (some ⟨g, 0, none⟩) ds.length ds :=
  ⟨Nat.le_refl _, hm, h.digits, .inr ⟨g, 0, rfl, h.lt, fun i hi => by rw [Nat.zero_add]; exact h.cells i hi⟩⟩
theorem getD_set {ds : List Nat} {j i d : Nat} (hj : j < ds.length) : (ds.set j d).getD i 0 = if i = j then d else ds.getD i 0 := by
  rw [List.getD_eq_getElem?_getD, List.getD_eq_getElem?_getD, List.getElem?_set]
  by_cases h : j = i
  · subst h; simp [hj]
  · rw [if_neg h, if_neg (fun e => h e.symm)]
theorem set_digits {ds : List Nat} {j d : Nat} (h : ∀ x ∈ ds, x < 65536) (hd : d < 65536) : ∀ x ∈ ds.set j d, x < 65536 := by
  intro x hx; rcases List.mem_or_eq_of_mem_set hx with hx | hx
  · exact h x hx
  · rw [hx]; exact hd
theorem Out.set {W : World} {g : Nat} {ds : List Nat} (h : Out W g ds) {j d : Nat} {z : Int} (hj : j < ds.length) (hd : d < 65536) (hz : z = (d : Int)) : Out (W.setCell ⟨g, j, none⟩ (.int .u64 z)) g (ds.set j d) := by
  refine ⟨by simpa [World.setCell] using h.lt, set_digits h.digits hd, fun i hi => ?_, fun i => by rw [World.frozen?_setCell]; exact h.frozen i⟩
  rw [List.length_set] at hi
  rw [getD_set hj]
  by_cases e : i = j
  · subst e; rw [if_pos rfl, hz]; exact World.cell?_setCell_same _ _ _ (h.cells i hi)
  · rw [if_neg e, World.cell?_setCell_other _ _ _ _ (fun he => e (by cases he; rfl))]; exact h.cells i hi
theorem Out.drewN {W : World} {g : Nat} {ds : List Nat} (h : Out W g ds) (n : Nat) : Out (W.drewN n) g ds := ⟨h.lt, h.digits, h.cells, h.frozen⟩
theorem val_set : ∀ {ds : List Nat} {j d : Nat}, j < ds.length → val (ds.set j d) + 65536 ^ j * ds.getD j 0 = val ds + 65536 ^ j * d
  | [], j, d, h => by simp at h
  | x :: r, 0, d, h => by simp only [List.set_cons_zero, val, List.getD_cons_zero, Nat.pow_zero, Nat.one_mul]; omega
  | x :: r, j + 1, d, h => by
    have ih := val_set (ds := r) (j := j) (d := d) (by simpa using h)
    simp only [List.set_cons_succ, val, List.getD_cons_succ]
    rw [Nat.pow_succ, Nat.mul_comm (65536 ^ j) 65536, Nat.mul_assoc, Nat.mul_assoc]
    omega
theorem val_zeros (n : Nat) : val (List.replicate n 0) = 0 := by
  induction n with
  | zero => rfl
  | succ n ih => rw [List.replicate_succ, val, ih]
theorem getD_zeros (n j : Nat) : (List.replicate n 0).getD j 0 = 0 := by
  rw [List.getD_eq_getElem?_getD, List.getElem?_replicate]; split <;> rfl
theorem out_made (w : World) (M : Nat) : Out (w.alloc (.cells (madeCells #[.int .u64 0] M) 47)) w.heap.size (List.replicate M 0) := by
  refine ⟨by simp, fun d hd => by rw [List.eq_of_mem_replicate hd]; decide, fun j hj => ?_, fun j => by simp [go_sem]⟩
  rw [List.length_replicate] at hj
  rw [World.cell?_alloc_new, getD_zeros]
  simp [madeCells, hj, Nat.mod_one]
/-- One digit more of a row of products. -/
theorem times_step {v v' P o x y c B : Nat} (hs : v' + P * o = v + P * ((o + x * y + c) % 65536)) (hv : v + P * c = B) :
    v' + P * 65536 * ((o + x * y + c) / 65536) = B + P * (x * y) := by
  have e := Nat.div_add_mod (o + x * y + c) 65536
  generalize (o + x * y + c) % 65536 = m at *
  generalize (o + x * y + c) / 65536 = q at *
  have h1 : P * (65536 * q + m) = P * (o + x * y + c) := by rw [e]
  rw [Nat.mul_add, Nat.mul_add, Nat.mul_add, ← Nat.mul_assoc] at h1
  omega

theorem times_alg {v V T i m x y q : Nat} (h : v + 65536 ^ (i + m) * 65536 * q = V + 65536 ^ i * (x * T) + 65536 ^ (i + m) * (x * y)) : v + 65536 ^ (i + (m + 1)) * q = V + 65536 ^ i * (x * (T + 65536 ^ m * y)) := by
  have e1 : 65536 ^ (i + (m + 1)) = 65536 ^ (i + m) * 65536 := by rw [← Nat.add_assoc, Nat.pow_succ]
  have e2 : 65536 ^ i * (x * (65536 ^ m * y)) = 65536 ^ (i + m) * (x * y) := by rw [Nat.pow_add]; ac_rfl
  rw [e1, Nat.mul_add x, Nat.mul_add, e2]; omega
theorem times_row {v v' V T i x c n A : Nat} (hs : v' + 65536 ^ (i + n) * 0 = v + 65536 ^ (i + n) * c) (he : v + 65536 ^ (i + n) * c = V + 65536 ^ i * (x * T)) (hv : V = A * T) : v' = (A + 65536 ^ i * x) * T := by
  rw [Nat.mul_zero, Nat.add_zero] at hs
  rw [hs, he, hv, Nat.add_mul, Nat.mul_assoc]

theorem refCutN (a : Option Addr) (cap : Nat) (ds : List Nat) (n : Nat) (w : World) (h : Row w a cap ds) (hn : Hid (ds.length = n)) :
    Calls Try.prog 71 #[.slice a n cap] w fun e w' => (∃ m, m ≤ n ∧ e = .returned (.slice a m cap) ∧ val (ds.take m) = val ds ∧ Trim (ds.take m)) ∧ w' = w := by
  rw [← hn.out]; exact refCut a cap ds w h

set_option maxHeartbeats 4000000 in
theorem refTimes (a b : Option Addr) (ca cb : Nat) (xs ys : List Nat) (w : World) (h : Row w a ca xs) (k : Row w b cb ys) (lx : xs.length ≤ 100) (ly : ys.length ≤ 100) :
    Calls Try.prog 69 #[.slice a xs.length ca, .slice b ys.length cb] w fun e w' =>
      (∃ c cc rs, e = .returned (.slice c rs.length cc) ∧ Row w' c cc rs ∧ val rs = val xs * val ys ∧ Trim rs ∧ rs.length ≤ xs.length + ys.length + 1 ∧ Fresh w.heap.size c) ∧ Below w.heap.size w w' := by
  obtain ⟨M, hM⟩ : ∃ M, xs.length + ys.length + 1 = M := ⟨_, rfl⟩
  have hmk : ∀ W, (Instr.makeSlice 41 (.int .i64 ((xs.length : Int) + (ys.length : Int) + 1)) (.int .i64 ((xs.length : Int) + (ys.length : Int) + 1))).run Try.prog W = .ok (.slice (some ⟨W.heap.size, 0, none⟩) M M) (W.alloc (.cells (madeCells #[.int .u64 0] M) 47)) := by
    intro W
    rw [show (xs.length : Int) + (ys.length : Int) + 1 = (M : Int) from by omega]
    exact run_make_row' 41 47 (.int .u64 0) 8 Try.underlying41 info_u64 rfl .i64 .i64 M (by omega) (by omega) W
  have HM : Hid _ := hM
  have hM0 : xs.length + ys.length < M := by omega
  have hM1 : M ≤ 201 := by omega
  clear hM
  go_enter Try.func69, Try.ntmps69
  go_wp2
  go_loopw [6] (fun t W => ∃ (i : Nat) (ds : List Nat), t = .int .i64 i ∧ i ≤ xs.length ∧ ds.length = M ∧ Out W w.heap.size ds ∧ val ds = val (xs.take i) * val ys ∧ (∀ j, i + ys.length ≤ j → ds.getD j 0 = 0) ∧ Below w.heap.size w W) (fun t _ => xs.length - (intOf t).toNat)
  case atStart =>
    refine ⟨0, List.replicate M 0, rfl, Nat.zero_le _, List.length_replicate, out_made w M, by rw [val_zeros]; simp [val], fun j _ => getD_zeros M j, (Below.refl _ _).alloc (Nat.le_refl _) _⟩
  case round =>
    obtain ⟨i, ds, rfl, hi, hl, ho, hv, hz, hB⟩ := hrel
    by_cases hlt : i < xs.length
    · have hlt' : (i : Int) < (xs.length : Int) := by omega
      have HV : Hid _ := hv; have HL : Hid _ := hl; have HZ : Hid _ := hz
      obtain ⟨x, ex⟩ : ∃ x, xs.getD i 0 = x := ⟨_, rfl⟩
      have hx := getD_lt h.digits i
      rw [ex] at hx
      have EX : Hid _ := ex
      clear hv hl hz ex
      go_wp2
      go_loopw [7, 8] (fun c t W => ∃ (k cy : Nat) (es : List Nat), t = .int .i64 k ∧ c = .int .u64 cy ∧ k ≤ ys.length ∧ cy < 65536 ∧ es.length = M ∧ Out W w.heap.size es ∧ val es + 65536 ^ (i + k) * cy = val ds + 65536 ^ i * (x * val (ys.take k)) ∧ (∀ j, i + ys.length ≤ j → es.getD j 0 = 0) ∧ Below w.heap.size w W) (fun _ t _ => ys.length - (intOf t).toNat)
      case atStart => exact ⟨0, 0, ds, rfl, rfl, Nat.zero_le _, by omega, HL.out, ho, by simp [val], HZ.out, hB⟩
      case round =>
        obtain ⟨m, cy, es, rfl, rfl, hm, hcy, hel, heo, hev, hez, hEB⟩ := hrel
        have HEV : Hid _ := hev; have HEL : Hid _ := hel; have HEZ : Hid _ := hez
        have hr := h.keep hEB; have kr := k.keep hEB
        by_cases hmt : m < ys.length
        · have hmt' : (m : Int) < (ys.length : Int) := by omega
          obtain ⟨b1, o1, rfl, lt1, hc1⟩ := hr.at (i := i) hlt
          obtain ⟨b2, o2, rfl, lt2, hc2⟩ := kr.at (i := m) hmt
          have hc3 := heo.cells (i + m) (by omega)
          have hf3 := heo.frozen (i + m)
          obtain ⟨y, ey⟩ : ∃ y, ys.getD m 0 = y := ⟨_, rfl⟩
          obtain ⟨o, eo⟩ : ∃ o, es.getD (i + m) 0 = o := ⟨_, rfl⟩
          have hy := getD_lt k.digits m
          have ho' := getD_lt heo.digits (i + m)
          rw [EX.out] at hc1; rw [ey] at hc2 hy; rw [eo] at hc3 ho'
          have EY : Hid _ := ey; have EO : Hid _ := eo
          obtain ⟨p, ep⟩ : ∃ p, x * y = p := ⟨_, rfl⟩
          have hp : p ≤ 65535 * 65535 := by rw [← ep]; exact Nat.mul_le_mul (by omega) (by omega)
          have hpi : (x : Int) * (y : Int) = (p : Int) := by rw [← ep]; simp
          have EP : Hid _ := ep
          clear hev hel hez ey eo ep
          have bd1 : (0 : Int) ≤ (i : Int) + (m : Int) := by omega
          have bd2 : (i : Int) + (m : Int) < (M : Int) := by omega
          go_wp2
          go_quiet (fail)
          go_wp2
          have hd : (((o : Int) + (p : Int) + (cy : Int)) % 65536) = (((o + x * y + cy) % 65536 : Nat) : Int) := by rw [EP.out]; omega
          have hq : (((o : Int) + (p : Int) + (cy : Int)) / 65536) = (((o + x * y + cy) / 65536 : Nat) : Int) := by rw [EP.out]; omega
          have hjl : i + m < es.length := by rw [HEL.out]; omega
          have hs := val_set (ds := es) (j := i + m) (d := (o + x * y + cy) % 65536) hjl
          rw [EO.out] at hs
          have hst := times_step hs HEV.out
          refine ⟨⟨m + 1, (o + x * y + cy) / 65536, es.set (i + m) ((o + x * y + cy) % 65536), by go_num, by rw [hq], by omega, by rw [EP.out]; omega, by rw [List.length_set]; exact HEL.out, (heo.drewN nq).set hjl (by omega) hd, ?_, fun j hj => ?_, ((btrans hEB (bdrewN _ _)).setCell (Nat.le_refl _) _)⟩, by simp [intOf]; omega⟩
          · rw [val_take_succ, EY.out]; exact times_alg hst
          · rw [getD_set hjl, if_neg (by omega)]; exact HEZ.out j hj
        · obtain rfl : m = ys.length := by omega
          have hmt' : ¬ (ys.length : Int) < (ys.length : Int) := by omega
          have hc3 := heo.cells (i + ys.length) (by omega)
          have hf3 := heo.frozen (i + ys.length)
          have hzero := hez (i + ys.length) (Nat.le_refl _)
          rw [hzero] at hc3
          have HZ0 : Hid _ := hzero
          clear hev hel hez hzero
          have bd1 : (0 : Int) ≤ (i : Int) + (ys.length : Int) := by omega
          have bd2 : (i : Int) + (ys.length : Int) < (M : Int) := by omega
          have hjl : i + ys.length < es.length := by rw [HEL.out]; omega
          have hs := val_set (ds := es) (j := i + ys.length) (d := cy) hjl
          rw [HZ0.out] at hs
          have he := HEV.out
          rw [List.take_length] at he
          have hfin := times_row hs he HV.out
          have HF : Hid _ := hfin
          clear hs he hfin
          go_wp2
          refine ⟨⟨i + 1, es.set (i + ys.length) cy, by go_num, by omega, by rw [List.length_set]; exact HEL.out, heo.set hjl hcy rfl, ?_, fun j hj => ?_, hEB.setCell (Nat.le_refl _) _⟩, by simp [intOf]; omega⟩
          · rw [val_take_succ, EX.out]; exact HF.out
          · rw [getD_set hjl, if_neg (by omega)]; exact HEZ.out j (by omega)
    · obtain rfl : i = xs.length := by omega
      have hlt' : ¬ (xs.length : Int) < (xs.length : Int) := by omega
      rw [List.take_length] at hv
      have hrow := ho.row (by rw [hl]; unfold maxLen; omega)
      have HV : Hid _ := hv
      have HL : Hid _ := hl
      rw [hl] at hrow
      clear hv hl hz
      go_wp2_with fail
      refine (refCutN (some ⟨w.heap.size, 0, none⟩) M ds M wr hrow HL).mono ?_
      rintro e W1 ⟨⟨n, hn, rfl, hvn, ht⟩, hw1⟩
      rw [hw1]
      clear hw1 W1
      have HVN : Hid _ := hvn
      have hlen : (ds.take n).length = n := by rw [List.length_take, HL.out, Nat.min_eq_left hn]
      have HLN : Hid _ := hlen
      clear hvn hlen
      go_wp2
      go_ret
      exact ⟨⟨some ⟨w.heap.size, 0, none⟩, M, ds.take n, by rw [HLN.out]; rfl, hrow.take n, HVN.out.trans HV.out, ht, by rw [HLN.out, HM.out]; exact hn, fun x hx => by cases hx; exact Nat.le_refl _⟩, hB⟩
end Go.Proofs.Ytfgbkmcbpmmfdaa
