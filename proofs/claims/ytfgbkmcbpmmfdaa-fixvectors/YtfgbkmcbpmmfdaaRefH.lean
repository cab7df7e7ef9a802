/- Layer 1's own answers (embrasureref01): greatest. -/
import Derived.Test.YtfgbkmcbpmmfdaaRefE
namespace Go.Proofs.Ytfgbkmcbpmmfdaa
open Go.RowKit
set_option linter.unusedVariables false

/-- Bit by bit: the greatest number whose f is not above N. -/
def grGo (f : Nat → Nat) (N : Nat) : Nat → Nat → Nat
  | 0, acc => acc
  | k + 1, acc => grGo f N k (if f (acc + 2 ^ k) ≤ N then acc + 2 ^ k else acc)
theorem grGo_root (N : Nat) : ∀ k acc, grGo (fun x => x * x) N k acc = rootGo N k acc
  | 0, acc => rfl
  | k + 1, acc => by rw [grGo, rootGo]; exact grGo_root N k _
theorem grGo_lin (N B : Nat) : ∀ k acc, acc * B ≤ N → acc ≤ grGo (fun x => x * B) N k acc ∧ grGo (fun x => x * B) N k acc * B ≤ N ∧ grGo (fun x => x * B) N k acc < acc + 2 ^ k ∧ (grGo (fun x => x * B) N k acc + 1 < acc + 2 ^ k → N < (grGo (fun x => x * B) N k acc + 1) * B)
  | 0, acc, h => by simp [grGo, h]
  | k + 1, acc, h => by
    have e : 2 ^ (k + 1) = 2 ^ k + 2 ^ k := by rw [Nat.pow_succ]; omega
    have p := Nat.two_pow_pos k
    rw [grGo]
    by_cases hc : (acc + 2 ^ k) * B ≤ N
    · rw [if_pos hc]
      obtain ⟨r1, r2, r3, r4⟩ := grGo_lin N B k (acc + 2 ^ k) hc
      exact ⟨by omega, r2, by omega, fun hh => r4 (by omega)⟩
    · rw [if_neg hc]
      obtain ⟨r1, r2, r3, r4⟩ := grGo_lin N B k acc h
      refine ⟨r1, r2, by omega, fun _ => ?_⟩
      by_cases hh : grGo (fun x => x * B) N k acc + 1 < acc + 2 ^ k
      · exact r4 hh
      · have : grGo (fun x => x * B) N k acc + 1 = acc + 2 ^ k := by omega
        rw [this]; omega
/-- The quotient, or all bits. -/
theorem gr_quo {N B : Nat} (hB : 0 < B) : (N / B < 18446744073709551616 → grGo (fun x => x * B) N 64 0 = N / B) ∧ (18446744073709551616 ≤ N / B → grGo (fun x => x * B) N 64 0 = 18446744073709551615) := by
  obtain ⟨_, r2, r3, r4⟩ := grGo_lin N B 64 0 (by simp)
  generalize grGo (fun x => x * B) N 64 0 = g at *
  have e64 : (2 : Nat) ^ 64 = 18446744073709551616 := by decide
  rw [e64] at r3 r4
  have h1 : g ≤ N / B := (Nat.le_div_iff_mul_le hB).2 r2
  constructor
  · intro hq
    by_cases hh : g + 1 < 0 + 18446744073709551616
    · have := r4 hh
      have : N / B < g + 1 := (Nat.div_lt_iff_lt_mul hB).2 this
      omega
    · omega
  · intro hq
    by_cases hh : g + 1 < 0 + 18446744073709551616
    · have := r4 hh
      have : N / B < g + 1 := (Nat.div_lt_iff_lt_mul hB).2 this
      omega
    · omega
/-- What the loop holds. -/
def GrInv (f : Nat → Nat) (N acc k : Nat) : Prop := k ≤ 64 ∧ acc % 2 ^ k = 0 ∧ acc + 2 ^ k ≤ 18446744073709551616 ∧ grGo f N k acc = grGo f N 64 0
theorem GrInv.start (f : Nat → Nat) (N : Nat) : GrInv f N 0 64 := ⟨Nat.le_refl _, by simp, by decide, rfl⟩
theorem GrInv.or {f : Nat → Nat} {N acc m : Nat} (h : GrInv f N acc (m + 1)) : acc ||| 2 ^ m = acc + 2 ^ m ∧ acc + 2 ^ m < 18446744073709551616 ∧ acc < 18446744073709551616 ∧ 2 ^ m < 18446744073709551616 ∧ m ≤ 63 := by
  obtain ⟨h1, h2, h3, _⟩ := h
  have p := Nat.two_pow_pos m
  have e : 2 ^ (m + 1) = 2 * 2 ^ m := by rw [Nat.pow_succ]; omega
  have e1 : acc = 2 ^ (m + 1) * (acc / 2 ^ (m + 1)) := by have := Nat.div_add_mod acc (2 ^ (m + 1)); omega
  have hlt : 2 ^ m < 2 ^ (m + 1) := by omega
  refine ⟨by rw [e1, Nat.two_pow_add_eq_or_of_lt hlt], by omega, by omega, by omega, by omega⟩
theorem GrInv.step {f : Nat → Nat} {N acc m : Nat} (h : GrInv f N acc (m + 1)) : GrInv f N (if f (acc + 2 ^ m) ≤ N then acc + 2 ^ m else acc) m := by
  obtain ⟨h1, h2, h3, h4⟩ := h
  have p := Nat.two_pow_pos m
  have e : 2 ^ (m + 1) = 2 * 2 ^ m := by rw [Nat.pow_succ]; omega
  rw [grGo] at h4
  have hd : acc % 2 ^ m = 0 := by
    have a1 : 2 ^ (m + 1) ∣ acc := Nat.dvd_of_mod_eq_zero h2
    exact Nat.mod_eq_zero_of_dvd (Nat.dvd_trans ⟨2, by omega⟩ a1)
  refine ⟨by omega, ?_, ?_, h4⟩
  · split
    · rw [Nat.add_mod_right]; exact hd
    · exact hd
  · split <;> omega
/-- Four digits. -/
theorem val4 (x : Nat) : val [x % 65536, x / 65536 % 65536, x / 4294967296 % 65536, x / 281474976710656] = x := by simp only [val]; omega

theorem wrap_lt (P : Nat) (h : P < 18446744073709551616) : IntKind.u64.wrap (P : Int) = (P : Int) := by rw [IntKind.wrap_u64]; omega
theorem row4 (W : World) (x : Nat) (hx : x < 18446744073709551616) (t : TypeId) : Row (W.alloc (.cells #[.int .u64 ((x : Int) % 65536), .int .u64 ((x : Int) / 65536 % 65536), .int .u64 ((x : Int) / 4294967296 % 65536), .int .u64 ((x : Int) / 281474976710656)] t)) (some ⟨W.heap.size, 0, none⟩) 4 [x % 65536, x / 65536 % 65536, x / 4294967296 % 65536, x / 281474976710656] := by
  refine ⟨Nat.le_refl _, by unfold maxLen; omega, ?_, .inr ⟨W.heap.size, 0, rfl, by simp, fun i hi => ?_⟩⟩
  · intro d hd
    simp only [List.mem_cons, List.not_mem_nil, or_false] at hd
    omega
  · rw [World.cell?_alloc_new]
    match i, hi with
    | 0, _ => simp
    | 1, _ => simp
    | 2, _ => simp
    | 3, _ => simp
    | i + 4, hi => simp at hi; omega
set_option maxHeartbeats 4000000 in
theorem refGreatest (q : Bool) (a b : Option Addr) (ca cb : Nat) (ys zs : List Nat) (w : World) (h : Row w a ca ys) (k : Row w b cb zs) (ly : ys.length ≤ 90) (tz : Trim zs) (f : Nat → Nat) (hf : Hid (f = fun x => if q then x * x else x * val ys)) :
    Calls Try.prog 53 #[.slice a ys.length ca, .bool q, .slice b zs.length cb] w fun e w' => e = .returned (.int .u64 ((grGo f (val zs) 64 0 : Nat) : Int)) ∧ Below w.heap.size w w' := by
  obtain ⟨N, hN⟩ : ∃ N, val zs = N := ⟨_, rfl⟩
  have HN : Hid _ := hN
  rw [hN]
  clear hN
  go_enter Try.func53, Try.ntmps53
  go_wp2
  go_loopw [7, 8] (fun n t W => ∃ (i acc : Nat), n = .int .u64 acc ∧ t = .int .i64 ((i : Int) - 1) ∧ GrInv f N acc i ∧ Below w.heap.size w W) (fun _ t _ => (intOf t + 1).toNat)
  case atStart => exact ⟨64, 0, rfl, rfl, GrInv.start f N, Below.refl _ _⟩
  case round =>
    obtain ⟨i, acc, rfl, rfl, inv, hB⟩ := hrel
    by_cases h0 : i = 0
    · subst h0
      have hd : acc = grGo f N 64 0 := inv.2.2.2
      subst hd
      clear inv
      go_wp2
      go_ret
      exact ⟨rfl, hB⟩
    · obtain ⟨m, rfl⟩ : ∃ m, i = m + 1 := ⟨i - 1, by omega⟩
      obtain ⟨o1, o2, o3, o4, o5⟩ := inv.or
      have hy := h.keep hB; have hz := k.keep hB
      have st := inv.step
      obtain ⟨X, eX⟩ : ∃ X, acc + 2 ^ m = X := ⟨_, rfl⟩
      rw [eX] at st o1 o2
      have hor : bits BinOp.or IntKind.u64 (acc : Int) (IntKind.u64.wrap (2 ^ m)) = (X : Int) := by
        rw [show ((2 : Int) ^ m) = ((2 ^ m : Nat) : Int) from by simp, wrap_lt _ o4, bits_or_u64_nat _ _ o3 o4, o1]
      have hr4 := row4 wr X o2 47
      have hB4 : Below w.heap.size w (wr.alloc (.cells #[.int .u64 ((X : Int) % 65536), .int .u64 ((X : Int) / 65536 % 65536), .int .u64 ((X : Int) / 4294967296 % 65536), .int .u64 ((X : Int) / 281474976710656)] 47)) := hB.alloc hB.size _
      have hl4 : Hid ([X % 65536, X / 65536 % 65536, X / 4294967296 % 65536, X / 281474976710656].length = 4) := rfl
      have hv4 := val4 X
      generalize [X % 65536, X / 65536 % 65536, X / 4294967296 % 65536, X / 281474976710656] = es at *
      have HV4 : Hid _ := hv4
      have ST : Hid _ := st
      have X0 : (0 : Int) ≤ (X : Int) := by omega
      have X1 : (X : Int) < 18446744073709551616 := by omega
      clear inv o1 o2 o3 o4 eX hv4 st hy hz
      go_wp2_with fail
      refine (refCutN _ 4 es 4 _ hr4 hl4).mono ?_
      rintro e W1 ⟨⟨n, hn, rfl, hvn, ht⟩, hw1⟩
      rw [hw1]
      clear hw1 W1
      have hrn := hr4.take n
      have hln : (es.take n).length = n := by rw [List.length_take, hl4.out]; omega
      have hvn' : val (es.take n) = X := hvn.trans HV4.out
      have HVN : Hid _ := hvn'
      have HLN : Hid _ := hln
      generalize es.take n = rs at *
      clear hvn hvn' hln HV4
      have hln' := HLN.out
      subst hln'
      have hB5 : ∀ o, Below w.heap.size w ((wr.alloc (.cells #[.int .u64 ((X : Int) % 65536), .int .u64 ((X : Int) / 65536 % 65536), .int .u64 ((X : Int) / 4294967296 % 65536), .int .u64 ((X : Int) / 281474976710656)] 47)).alloc o) := fun o => hB4.alloc hB4.size _
      have hB5 := hB5 (.cells #[] 47)
      have hrn5 := hrn.keep ((Below.refl _ _).alloc (Nat.le_refl _) (.cells #[] 47))
      have hy5 := h.keep hB5
      cases q
      · have hfe : f = fun x => x * val ys := hf.out
        go_wp2_with fail
        refine (refTimes _ a 4 ca rs ys _ hrn5 hy5 (by omega) (by omega)).mono ?_
        rintro e W2 ⟨⟨c, cc, ps, rfl, hrp, hvp, htp, hlp, hfr⟩, bel2⟩
        have hB2 := btrans hB5 bel2
        have hz2 := k.keep hB2
        have hB3 := hB2
        go_wp2_with fail
        refine (refMore c b cc cb ps zs _ hrp hz2 htp tz).mono ?_
        rintro e W3 ⟨rfl, bel3⟩
        have hB4' := btrans hB2 bel3
        by_cases hle : f X ≤ N
        · have hd : decide (val zs < val ps) = false := by rw [hvp, HVN.out, HN.out]; rw [hfe] at hle; dsimp only at hle; exact decide_eq_false (by omega)
          rw [hd]
          have st := ST.out
          rw [if_pos hle] at st
          clear hd hle
          go_wp2
          exact ⟨⟨m, X, rfl, rfl, st, hB4'⟩, by simp [intOf]⟩
        · have hd : decide (val zs < val ps) = true := by rw [hvp, HVN.out, HN.out]; rw [hfe] at hle; dsimp only at hle; exact decide_eq_true (by omega)
          rw [hd]
          have st := ST.out
          rw [if_neg hle] at st
          clear hd hle
          go_wp2
          exact ⟨⟨m, acc, rfl, rfl, st, hB4'⟩, by simp [intOf]⟩
      · have hfe : f = fun x => x * x := hf.out
        go_wp2_with fail
        refine (refTimes _ _ 4 4 rs rs _ hrn5 hrn5 (by omega) (by omega)).mono ?_
        rintro e W2 ⟨⟨c, cc, ps, rfl, hrp, hvp, htp, hlp, hfr⟩, bel2⟩
        have hB2 := btrans hB5 bel2
        have hz2 := k.keep hB2
        have hB3 := hB2
        go_wp2_with fail
        refine (refMore c b cc cb ps zs _ hrp hz2 htp tz).mono ?_
        rintro e W3 ⟨rfl, bel3⟩
        have hB4' := btrans hB2 bel3
        by_cases hle : f X ≤ N
        · have hd : decide (val zs < val ps) = false := by rw [hvp, HVN.out, HN.out]; rw [hfe] at hle; dsimp only at hle; exact decide_eq_false (by omega)
          rw [hd]
          have st := ST.out
          rw [if_pos hle] at st
          clear hd hle
          go_wp2
          exact ⟨⟨m, X, rfl, rfl, st, hB4'⟩, by simp [intOf]⟩
        · have hd : decide (val zs < val ps) = true := by rw [hvp, HVN.out, HN.out]; rw [hfe] at hle; dsimp only at hle; exact decide_eq_true (by omega)
          rw [hd]
          have st := ST.out
          rw [if_neg hle] at st
          clear hd hle
          go_wp2
          exact ⟨⟨m, acc, rfl, rfl, st, hB4'⟩, by simp [intOf]⟩
end Go.Proofs.Ytfgbkmcbpmmfdaa
