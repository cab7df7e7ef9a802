/- Layer 4 (crc): the walk of the law CrcMixes. -/
import Derived.Test.YtablaoapbddhfaaDoorCrA
import Derived.Deep.OwnRows
namespace Go.Proofs.YtablaoapbddhfaaDoor
open Go.RowKit Go.Shelf
set_option linter.unusedVariables false

theorem row_made (w : World) (M : Nat) (hl : M ≤ 100000) : Row (w.alloc (.cells (madeCells #[.int .u8 0] M) 5)) w.heap.size (.slice (some ⟨w.heap.size, 0, none⟩) M M) (List.replicate M 0) := by
  have h := row_lit w (List.replicate M 0) (by rw [List.length_replicate]; exact hl)
  rw [List.length_replicate] at h
  have e : madeCells #[.int .u8 0] M = (u8s (List.replicate M 0)).toArray := by
    apply Array.toList_inj.1
    rw [toList_madeCells_one]
    simp [u8s]
  rw [e]; exact h
theorem mix_of {a b c zs : List Nat} (hl : zs.length = a.length) (h : ∀ j, j < a.length → zs.getD j 0 = a.getD j 0 ^^^ b.getD j 0 ^^^ c.getD j 0) : zs = mix a b c := by
  apply List.ext_getElem
  · rw [hl]; simp [mix]
  · intro i h1 h2
    have := h i (by omega)
    rw [show zs.getD i 0 = zs[i] by simp [h1]] at this
    rw [this]; simp [mix]
theorem mix_byte {a b c : List Nat} (ha : ∀ y ∈ a, y < 256) (hb : ∀ y ∈ b, y < 256) (hc : ∀ y ∈ c, y < 256) : ∀ y ∈ mix a b c, y < 256 := by
  intro y hy
  obtain ⟨i, _, rfl⟩ := List.mem_map.1 hy
  exact Nat.xor_lt_two_pow (n := 8) (Nat.xor_lt_two_pow (n := 8) (getD_byte ha i) (getD_byte hb i)) (getD_byte hc i)
theorem bits3 {x y z : Nat} (hx : x < 256) (hy : y < 256) (hz : z < 256) : bits .xor .u8 (bits .xor .u8 (x : Int) (y : Int)) (z : Int) = ((x ^^^ y ^^^ z : Nat) : Int) ∧ x ^^^ y ^^^ z < 256 := by
  have h1 : x ^^^ y < 256 := Nat.xor_lt_two_pow (n := 8) hx hy
  rw [bits_xor_u8, Nat.mod_eq_of_lt (by omega), Nat.mod_eq_of_lt (by omega), bits_xor_u8, Nat.mod_eq_of_lt (by omega), Nat.mod_eq_of_lt (by omega)]
  exact ⟨rfl, Nat.xor_lt_two_pow (n := 8) h1 hz⟩
theorem min4 (x y z : Nat) (N : Nat) (hN : N = min (min (min x y) z) 500) (w : World) : (Builtin.min_ #[3, 3, 3, 3] 3 #[.int .i64 (x : Int), .int .i64 (y : Int), .int .i64 (z : Int), .int .i64 500]).run Tryd.prog w = .ok (.int .i64 (N : Int)) w := by
  have e : (if (500 : Int) < (if (z : Int) < (if (y : Int) < (x : Int) then (y : Int) else x) then (z : Int) else (if (y : Int) < (x : Int) then (y : Int) else x)) then (500 : Int) else (if (z : Int) < (if (y : Int) < (x : Int) then (y : Int) else x) then (z : Int) else (if (y : Int) < (x : Int) then (y : Int) else x))) = (N : Int) := by
    split <;> rename_i h1 <;> (try split at h1) <;> (try split at h1) <;> (try split) <;> (try split) <;> omega
  rw [← e]
  simp [Builtin.min_, Builtin.min2]
set_option maxRecDepth 100000 in
set_option maxHeartbeats 4000000 in
theorem crcMixes_walk (p1 : Option Addr) (n1 cap1 : Nat) (z1 : Nat → Int) (p2 : Option Addr) (n2 cap2 : Nat) (z2 : Nat → Int) (p3 : Option Addr) (n3 cap3 : Nat) (z3 : Nat → Int) (s t : Int) (w : World) (hT : Tab w)
    (h1 : Arg w p1 n1 cap1 fun i => .int .u8 (z1 i)) (hz1 : ∀ i, (Lit.int .u8 (z1 i)).wf = true) (h2 : Arg w p2 n2 cap2 fun i => .int .u8 (z2 i)) (hz2 : ∀ i, (Lit.int .u8 (z2 i)).wf = true) (h3 : Arg w p3 n3 cap3 fun i => .int .u8 (z3 i)) (hz3 : ∀ i, (Lit.int .u8 (z3 i)).wf = true)
    (hs : (Lit.int .u16 s).wf = true) (ht : (Lit.int .u16 t).wf = true) :
    Calls Tryd.prog 6 #[.slice p1 n1 cap1, .slice p2 n2 cap2, .slice p3 n3 cap3, .int .u16 s, .int .u16 t] w fun e w' => e = .returned (.bool true) ∧ Below w.heap.size w w' := by
  obtain ⟨N, hN⟩ : ∃ N, N = min (min (min n1 n2) n3) 500 := ⟨_, rfl⟩
  have l1 := h1.le; have l2 := h2.le; have l3 := h3.le; have m1 := h1.most; have m2 := h2.most; have m3 := h3.most
  unfold maxLen at m1 m2 m3
  obtain ⟨xa, e1, y1, a1⟩ := h1.bytes hz1 (k := N) (by omega)
  obtain ⟨xb, e2, y2, a2⟩ := h2.bytes hz2 (k := N) (by omega)
  obtain ⟨xc, e3, y3, a3⟩ := h3.bytes hz3 (k := N) (by omega)
  obtain ⟨s0, rfl, hs0⟩ := u16_nat hs
  obtain ⟨t0, rfl, ht0⟩ := u16_nat ht
  have hsh := shown w hT
  have hmin := min4 n1 n2 n3 N hN
  have hmk := fun W => run_make_row' (P := Tryd.prog) 22 5 (.int .u8 0) 1 Tryd.underlying22 info_u8 rfl .i64 .i64 N (by omega) (by omega) W
  have hx1 := fun W (hb : Below w.heap.size w W) => sumC p1 cap1 xa W (hT.below hb hT.pos) (a1.keep hb) y1
  have hx2 := fun W (hb : Below w.heap.size w W) => sumC p2 cap2 xb W (hT.below hb hT.pos) (a2.keep hb) y2
  have hx3 := fun W (hb : Below w.heap.size w W) => sumC p3 cap3 xc W (hT.below hb hT.pos) (a3.keep hb) y3
  have hym := mix_byte y1 y2 y3
  have hml : (mix xa xb xc).length = N := by simp [mix, e1]
  have hx0 := fun q c W (hb : Below w.heap.size w W) (ha : Arg W q (mix xa xb xc).length c fun i => .int .u8 (((mix xa xb xc).getD i 0 : Nat) : Int)) => sumC q c _ W (hT.below hb hT.pos) ha hym
  have hx4 := fun q c W (hb : Below w.heap.size w W) (ha : Arg W q (mix xa xb xc).length c fun i => .int .u8 (((mix xa xb xc).getD i 0 : Nat) : Int)) => more (BitVec.ofNat 16 s0) q c _ W (hT.below hb hT.pos) ha hym
  have hx5 := fun q c W (hb : Below w.heap.size w W) (ha : Arg W q (mix xa xb xc).length c fun i => .int .u8 (((mix xa xb xc).getD i 0 : Nat) : Int)) => more (BitVec.ofNat 16 t0) q c _ W (hT.below hb hT.pos) ha hym
  have es : (BitVec.ofNat 16 s0).toNat = s0 := by rw [BitVec.toNat_ofNat]; omega
  have et : (BitVec.ofNat 16 t0).toNat = t0 := by rw [BitVec.toNat_ofNat]; omega
  have hmixes := crc_mix xa xb xc 0xFFFF#16 0xFFFF#16 0xFFFF#16 (by omega) (by omega)
  rw [show (0xFFFF#16 ^^^ 0xFFFF#16 ^^^ 0xFFFF#16 : BitVec 16) = 0xFFFF#16 from rfl] at hmixes
  have hinj : ((crc (BitVec.ofNat 16 s0) (mix xa xb xc)).toNat = (crc (BitVec.ofNat 16 t0) (mix xa xb xc)).toNat) ↔ s0 = t0 := by
    constructor
    · intro h
      have := crc_inj.1 (BitVec.eq_of_toNat_eq h)
      rw [← es, ← et, this]
    · rintro rfl; rfl
  have hq := congrArg BitVec.toNat hmixes
  rw [BitVec.toNat_xor, BitVec.toNat_xor] at hq
  have b1 := (crc 0xFFFF#16 xa).isLt
  have b2 := (crc 0xFFFF#16 xb).isLt
  have b3 := (crc 0xFFFF#16 xc).isLt
  rw [es] at hx4
  rw [et] at hx5
  rw [e1] at hx1; rw [e2] at hx2; rw [e3] at hx3; rw [hml] at hx0 hx4 hx5
  obtain ⟨v1, hv1⟩ : ∃ v, (crc 0xFFFF#16 xa).toNat = v := ⟨_, rfl⟩
  obtain ⟨v2, hv2⟩ : ∃ v, (crc 0xFFFF#16 xb).toNat = v := ⟨_, rfl⟩
  obtain ⟨v3, hv3⟩ : ∃ v, (crc 0xFFFF#16 xc).toNat = v := ⟨_, rfl⟩
  obtain ⟨v0, hv0⟩ : ∃ v, (crc 0xFFFF#16 (mix xa xb xc)).toNat = v := ⟨_, rfl⟩
  obtain ⟨v4, hv4⟩ : ∃ v, (crc (BitVec.ofNat 16 s0) (mix xa xb xc)).toNat = v := ⟨_, rfl⟩
  obtain ⟨v5, hv5⟩ : ∃ v, (crc (BitVec.ofNat 16 t0) (mix xa xb xc)).toNat = v := ⟨_, rfl⟩
  rw [hv1] at hx1 hq b1; rw [hv2] at hx2 hq b2; rw [hv3] at hx3 hq b3; rw [hv0] at hx0 hq; rw [hv4] at hx4 hinj; rw [hv5] at hx5 hinj
  have g1 : bits .xor .u16 (bits .xor .u16 (v1 : Int) (v2 : Int)) (v3 : Int) = (v0 : Int) := by
    have h1 : v1 ^^^ v2 < 2 ^ 16 := Nat.xor_lt_two_pow b1 b2
    rw [bits_xor_u16, Nat.mod_eq_of_lt b1, Nat.mod_eq_of_lt b2, bits_xor_u16, Nat.mod_eq_of_lt h1, Nat.mod_eq_of_lt b3, hq]
  have hN1 : N ≤ n1 := by omega
  have hN2 : N ≤ n2 := by omega
  have hN3 : N ≤ n3 := by omega
  have hN5 : N ≤ 500 := by omega
  have HX0 := hid hx0; have HX1 := hid hx1; have HX2 := hid hx2; have HX3 := hid hx3; have HX4 := hid hx4; have HX5 := hid hx5
  have HA1 := hid a1; have HA2 := hid a2; have HA3 := hid a3
  have E1 := hid e1; have E2 := hid e2; have E3 := hid e3; have HINJ := hid hinj; have HG := hid g1
  clear hx0 hx1 hx2 hx3 hx4 hx5 a1 a2 a3 e1 e2 e3 hinj g1 h1 h2 h3 hz1 hz2 hz3 hs ht hv0 hv1 hv2 hv3 hv4 hv5 hq b1 b2 b3 hmixes es et hym hml hN hT
  go_enter Tryd.func6, Tryd.ntmps6
  go_wp2_with (go_at_call 8; refine hsh.mono ?_; rintro e w0 ⟨rfl, hB0⟩)
  have hr0 := row_made w0 N (by omega)
  have hB1 : Below w.heap.size w (w0.alloc (.cells (madeCells #[.int .u8 0] N) 5)) := hB0.alloc hB0.size _
  generalize w0.alloc (.cells (madeCells #[.int .u8 0] N) 5) = w1 at *
  obtain ⟨G, hG⟩ : ∃ G, w0.heap.size = G := ⟨_, rfl⟩
  have hGw : w.heap.size ≤ G := by have := hB0.size; omega
  rw [hG] at hr0 ⊢
  have HR0 := hid hr0
  clear hsh hr0 hG hmk hmin hB0
  go_loopw [14] (fun i wr => ∃ (k : Nat) (zs : List Nat), i = .int .i64 k ∧ k ≤ N ∧ zs.length = N ∧ (∀ j, j < k → zs.getD j 0 = xa.getD j 0 ^^^ xb.getD j 0 ^^^ xc.getD j 0) ∧ Row wr G (.slice (some ⟨G, 0, none⟩) N N) zs ∧ Below w.heap.size w wr) (fun i _ => N - (intOf i).toNat)
  case atStart => exact ⟨0, List.replicate N 0, rfl, Nat.zero_le _, List.length_replicate, fun j hj => by omega, HR0.out, hB1⟩
  case round =>
    obtain ⟨k, zs, rfl, hk, hzl, hzs, hrow, hB⟩ := hrel
    clear HR0 hB1
    by_cases hlt : k < N
    · have i1 : (k : Int) < (N : Int) := by omega
      have i2 : (k : Int) < (n1 : Int) := by omega
      have i3 : (k : Int) < (n2 : Int) := by omega
      have i4 : (k : Int) < (n3 : Int) := by omega
      obtain ⟨ab, ao, rfl, lt1, hw1⟩ := HA1.out.at (i := k) (by rw [E1.out]; exact hlt)
      have hc1 : ∀ w', Below G wr w' → w'.cell? ⟨ab, ao + k, none⟩ = some (.int .u8 ((xa.getD k 0 : Nat) : Int)) := fun w' hb => (hb.cell (p := ⟨ab, ao + k, none⟩) (by show ab < G; omega)).trans ((hB.cell (p := ⟨ab, ao + k, none⟩) lt1).trans (hw1 k (by rw [E1.out]; exact hlt)))
      obtain ⟨bb, bo, rfl, lt2, hw2⟩ := HA2.out.at (i := k) (by rw [E2.out]; exact hlt)
      have hc2 : ∀ w', Below G wr w' → w'.cell? ⟨bb, bo + k, none⟩ = some (.int .u8 ((xb.getD k 0 : Nat) : Int)) := fun w' hb => (hb.cell (p := ⟨bb, bo + k, none⟩) (by show bb < G; omega)).trans ((hB.cell (p := ⟨bb, bo + k, none⟩) lt2).trans (hw2 k (by rw [E2.out]; exact hlt)))
      obtain ⟨cb, co, rfl, lt3, hw3⟩ := HA3.out.at (i := k) (by rw [E3.out]; exact hlt)
      have hc3 : ∀ w', Below G wr w' → w'.cell? ⟨cb, co + k, none⟩ = some (.int .u8 ((xc.getD k 0 : Nat) : Int)) := fun w' hb => (hb.cell (p := ⟨cb, co + k, none⟩) (by show cb < G; omega)).trans ((hB.cell (p := ⟨cb, co + k, none⟩) lt3).trans (hw3 k (by rw [E3.out]; exact hlt)))
      have d1 := getD_byte y1 k; have d2 := getD_byte y2 k; have d3 := getD_byte y3 k
      obtain ⟨x1, hx1⟩ : ∃ x, xa.getD k 0 = x := ⟨_, rfl⟩
      obtain ⟨x2, hx2⟩ : ∃ x, xb.getD k 0 = x := ⟨_, rfl⟩
      obtain ⟨x3, hx3⟩ : ∃ x, xc.getD k 0 = x := ⟨_, rfl⟩
      rw [hx1] at hc1 d1; rw [hx2] at hc2 d2; rw [hx3] at hc3 d3
      obtain ⟨q1, q2⟩ := bits3 d1 d2 d3
      obtain ⟨g4, cap4, hv4, _, _, hg4, hcs, hfs⟩ := hrow.at (j := k) (by omega)
      rw [hzl] at hv4
      cases hv4
      have c4 := hcs k (by omega)
      have f4 := hfs k
      have hset := hrow.set k (x1 ^^^ x2 ^^^ x3)
      have hzs' : ∀ j, j < k + 1 → (zs.set k (x1 ^^^ x2 ^^^ x3)).getD j 0 = xa.getD j 0 ^^^ xb.getD j 0 ^^^ xc.getD j 0 := by
        intro j hj
        by_cases e : j = k
        · subst e
          rw [hx1, hx2, hx3]
          simp [hzl, hlt]
        · have := hzs j (by omega)
          rw [← this]
          simp [List.getElem?_set_ne (Ne.symm e)]
      obtain ⟨x, hx⟩ : ∃ x, x1 ^^^ x2 ^^^ x3 = x := ⟨_, rfl⟩
      rw [hx] at q1 hset hzs'
      have HSET := hid hset; have HZ := hid hzs'; have HZL := hid hzl; have HROW := hid hrow
      clear hw1 hw2 hw3 hcs hfs hset hzs' hzs hzl hrow hx1 hx2 hx3 hx q2 d1 d2 d3
      go_wp2_with fail
      refine region_held (fun w' => Below G wr w') 18 rfl (by kernel_rfl) (below_drewN wr 1) ?_
      intro hHeld
      refine takeO 0 (some 30) (v := ?v1) rfl rfl (by kernel_rfl) (by kernel_rfl) (by kernel_rfl) (Or.inl ⟨by rfl, ?y1⟩) hHeld ?r1
      case y1 => (intro w' hSw; (try dsimp only at hSw); go_simp; try with_reducible rfl)
      try simp only [Act.put, List.setIfInBounds_toArray, List.set_cons_zero, List.set_cons_succ]
      refine takeO 1 (some 31) (v := ?v2) rfl rfl (by kernel_rfl) (by kernel_rfl) (by kernel_rfl) (Or.inl ⟨by rfl, ?y2⟩) hHeld ?r2
      case y2 => (intro w' hSw; (try dsimp only at hSw); go_simp; try with_reducible rfl)
      try simp only [Act.put, List.setIfInBounds_toArray, List.set_cons_zero, List.set_cons_succ]
      refine takeO 2 (some 32) (v := ?v3) rfl rfl (by kernel_rfl) (by kernel_rfl) (by kernel_rfl) (Or.inl ⟨by rfl, ?y3⟩) hHeld ?r3
      case y3 => (intro w' hSw; (try dsimp only at hSw); go_simp; try with_reducible rfl)
      try simp only [Act.put, List.setIfInBounds_toArray, List.set_cons_zero, List.set_cons_succ]
      refine takeO 3 (some 33) (v := ?v4) rfl rfl (by kernel_rfl) (by kernel_rfl) (by kernel_rfl) (Or.inl ⟨by rfl, ?y4⟩) hHeld ?r4
      case y4 => (intro w' hSw; (try dsimp only at hSw); go_simp; try with_reducible rfl)
      try simp only [Act.put, List.setIfInBounds_toArray, List.set_cons_zero, List.set_cons_succ]
      refine takeO 4 (some 34) (v := ?v5) rfl rfl (by kernel_rfl) (by kernel_rfl) (by kernel_rfl) (Or.inl ⟨by rfl, ?y5⟩) hHeld ?r5
      case y5 => (intro w' hSw; (try dsimp only at hSw); go_simp; try with_reducible rfl)
      try simp only [Act.put, List.setIfInBounds_toArray, List.set_cons_zero, List.set_cons_succ]
      refine takeO 5 (some 35) (v := ?v6) rfl rfl (by kernel_rfl) (by kernel_rfl) (by kernel_rfl) (Or.inl ⟨by rfl, ?y6⟩) hHeld ?r6
      case y6 => (intro w' hSw; (try dsimp only at hSw); go_simp; try with_reducible rfl)
      try simp only [Act.put, List.setIfInBounds_toArray, List.set_cons_zero, List.set_cons_succ]
      refine takeO 6 (some 36) (v := ?v7) rfl rfl (by kernel_rfl) (by kernel_rfl) (by kernel_rfl) (Or.inl ⟨by rfl, ?y7⟩) hHeld ?r7
      case y7 => (intro w' hSw; (try dsimp only at hSw); go_simp; try with_reducible rfl)
      try simp only [Act.put, List.setIfInBounds_toArray, List.set_cons_zero, List.set_cons_succ]
      refine takeO 7 (some 37) (v := ?v8) rfl rfl (by kernel_rfl) (by kernel_rfl) (by kernel_rfl) (Or.inl ⟨by rfl, ?y8⟩) hHeld ?r8
      case y8 => (intro w' hSw; (try dsimp only at hSw); go_simp; try with_reducible rfl)
      try simp only [Act.put, List.setIfInBounds_toArray, List.set_cons_zero, List.set_cons_succ]
      refine takeO 8 (some 38) (v := ?v9) rfl rfl (by kernel_rfl) (by kernel_rfl) (by kernel_rfl) (Or.inl ⟨by rfl, ?y9⟩) hHeld ?r9
      case y9 => (intro w' hSw; (try dsimp only at hSw); go_simp; try with_reducible rfl)
      try simp only [Act.put, List.setIfInBounds_toArray, List.set_cons_zero, List.set_cons_succ]
      refine takeO 9 (some 39) (v := ?v10) rfl rfl (by kernel_rfl) (by kernel_rfl) (by kernel_rfl) (Or.inl ⟨by rfl, ?y10⟩) hHeld ?r10
      case y10 => (intro w' hSw; (try dsimp only at hSw); go_simp; try with_reducible rfl)
      try simp only [Act.put, List.setIfInBounds_toArray, List.set_cons_zero, List.set_cons_succ]
      refine takeO 10 (some 40) (v := ?v11) rfl rfl (by kernel_rfl) (by kernel_rfl) (by kernel_rfl) (Or.inl ⟨by rfl, ?y11⟩) hHeld ?r11
      case y11 => (intro w' hSw; (try dsimp only at hSw); go_simp; try with_reducible rfl)
      try simp only [Act.put, List.setIfInBounds_toArray, List.set_cons_zero, List.set_cons_succ]
      refine takeO 11 (some 41) (v := ?v12) rfl rfl (by kernel_rfl) (by kernel_rfl) (by kernel_rfl) (Or.inl ⟨by rfl, ?y12⟩) hHeld ?r12
      case y12 => (intro w' hSw; (try dsimp only at hSw); go_simp; try with_reducible rfl)
      try simp only [Act.put, List.setIfInBounds_toArray, List.set_cons_zero, List.set_cons_succ]
      refine takeO 12 (some 42) (v := ?v13) rfl rfl (by kernel_rfl) (by kernel_rfl) (by kernel_rfl) (Or.inl ⟨by rfl, ?y13⟩) hHeld ?r13
      case y13 => (intro w' hSw; (try dsimp only at hSw); go_simp; try with_reducible rfl)
      try simp only [Act.put, List.setIfInBounds_toArray, List.set_cons_zero, List.set_cons_succ]
      refine takeO 13 (some 43) (v := ?v14) rfl rfl (by kernel_rfl) (by kernel_rfl) (by kernel_rfl) (Or.inl ⟨by rfl, ?y14⟩) hHeld ?r14
      case y14 => (intro w' hSw; (try dsimp only at hSw); go_simp; try with_reducible rfl)
      try simp only [Act.put, List.setIfInBounds_toArray, List.set_cons_zero, List.set_cons_succ]
      refine takeO 14 (some 44) (v := ?v15) rfl rfl (by kernel_rfl) (by kernel_rfl) (by kernel_rfl) (Or.inl ⟨by rfl, ?y15⟩) hHeld ?r15
      case y15 => (intro w' hSw; (try dsimp only at hSw); go_simp; try with_reducible rfl)
      try simp only [Act.put, List.setIfInBounds_toArray, List.set_cons_zero, List.set_cons_succ]
      refine takeO 15 (some 45) (v := ?v16) rfl rfl (by kernel_rfl) (by kernel_rfl) (by kernel_rfl) (Or.inl ⟨by rfl, ?y16⟩) hHeld ?r16
      case y16 => (intro w' hSw; (try dsimp only at hSw); go_simp; try with_reducible rfl)
      try simp only [Act.put, List.setIfInBounds_toArray, List.set_cons_zero, List.set_cons_succ]
      refine takeO 16 (some 46) (v := ?v17) rfl rfl (by kernel_rfl) (by kernel_rfl) (by kernel_rfl) (Or.inl ⟨by rfl, ?y17⟩) hHeld ?r17
      case y17 => (intro w' hSw; (try dsimp only at hSw); go_simp; try with_reducible rfl)
      try simp only [Act.put, List.setIfInBounds_toArray, List.set_cons_zero, List.set_cons_succ]
      refine wpAnyH_ready (rs := [17]) (by kernel_rfl) (by simp) ?_
      refine AllReadyH.cons rfl (fun K hK => ?_) AllReadyH.nil
      go_simp
      refine hK.out _ _ ((below_drewN wr 1).setCell (Nat.le_refl G) _) (fun hHeld => ?_)
      clear hK K
      refine wpAnyH_done (by kernel_rfl) (Only.on ?_) _
      have hrow2 : Row (wr.setCell ⟨G, k, none⟩ (.int .u8 (x : Int))).drew G (.slice (some ⟨G, 0, none⟩) N N) (zs.set k x) := HSET.out.below (below_drewN _ 1)
      have hB2 : Below w.heap.size w (wr.setCell ⟨G, k, none⟩ (.int .u8 (x : Int))).drew := ((hB.setCell (p := ⟨G, k, none⟩) hGw _)).trans (below_drewN _ 1)
      have HROW2 := hid hrow2; have HB2 := hid hB2
      clear hrow2 hB2
      go_wp2_with fail
      go_roundw
      case rel => exact ⟨k + 1, zs.set k x, by go_num, by omega, by rw [List.length_set]; exact HZL.out, HZ.out, HROW2.out, HB2.out⟩
      case measure => simp [intOf]; omega
    · obtain rfl : k = N := by omega
      have i1 : ¬ (k : Int) < (k : Int) := by omega
      have hmx := mix_of (hzl.trans E1.out.symm) (fun j hj => hzs j (by rw [← E1.out]; exact hj))
      subst hmx
      obtain ⟨q, c, hv, ha⟩ := hrow.arg
      rw [hzl] at ha hv
      cases hv
      have f0 := fun (n : Nat) => HX0.out _ _ _ (hB.trans (below_drewN wr n)) (ha.keep (below_drewN wr n))
      have f1 := fun (n : Nat) => HX1.out _ (hB.trans (below_drewN wr n))
      have f2 := fun (n : Nat) => HX2.out _ (hB.trans (below_drewN wr n))
      have f3 := fun (n : Nat) => HX3.out _ (hB.trans (below_drewN wr n))
      have f4 := fun (n : Nat) => HX4.out _ _ _ (hB.trans (below_drewN wr n)) (ha.keep (below_drewN wr n))
      have f5 := fun (n : Nat) => HX5.out _ _ _ (hB.trans (below_drewN wr n)) (ha.keep (below_drewN wr n))
      have g1 := HG.out
      have hinj := HINJ.out
      have hcs : (s0 = t0 ∧ v4 = v5) ∨ (((v4 : Int) == (v5 : Int)) = false ∧ ((s0 : Int) == (t0 : Int)) = false) := by
        by_cases e : s0 = t0
        · exact .inl ⟨e, hinj.2 e⟩
        · refine .inr ⟨?_, ?_⟩
          · have : ¬ v4 = v5 := fun h => e (hinj.1 h)
            simp; omega
          · simp; omega
      clear HX0 HX1 HX2 HX3 HX4 HX5 HA1 HA2 HA3 HG HINJ hrow ha hzs hinj E1 E2 E3 hzl
      rcases hcs with ⟨rfl, rfl⟩ | ⟨e4, e5⟩
      all_goals
        go_wp2_with fail
        go_quiet (first
          | (go_at_call 9; first | with_reducible exact Calls.quiet_of_same (f0 _) | with_reducible exact Calls.quiet_of_same (f1 _) | with_reducible exact Calls.quiet_of_same (f2 _) | with_reducible exact Calls.quiet_of_same (f3 _))
          | (go_at_call 11; first | with_reducible exact Calls.quiet_of_same (f4 _) | with_reducible exact Calls.quiet_of_same (f5 _)))
        go_wp2
        go_ret
        exact ⟨rfl, hB.trans (below_drewN wr _)⟩
end Go.Proofs.YtablaoapbddhfaaDoor
