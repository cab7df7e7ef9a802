/- Layer 4 (crc): rows of bytes that came in; the walk of the law CrcPieces. -/
import Derived.Test.YtablaoapbddhfaaDoorCrL
import Derived.Deep.Matrix
namespace Go.Proofs.YtablaoapbddhfaaDoor
open Go.RowKit Go.Shelf
set_option linter.unusedVariables false

/-- Rows of bytes that were handed in. -/
structure Arg2 (w : World) (p : Option Addr) (n cap : Nat) (A : Nat → Option Addr) (L C : Nat → Nat) (Z : Nat → Nat → Int) : Prop where
  out : Arg w p n cap fun r => .slice (A r) (L r) (C r)
  inn : ∀ r, r < n → Arg w (A r) (L r) (C r) fun i => .int .u8 (Z r i)
theorem Arg2.keep {w w' : World} {p : Option Addr} {n cap : Nat} {A : Nat → Option Addr} {L C : Nat → Nat} {Z : Nat → Nat → Int} (h : Arg2 w p n cap A L C Z) (hb : Below w.heap.size w w') : Arg2 w' p n cap A L C Z := ⟨h.out.keep hb, fun r hr => (h.inn r hr).keep hb⟩
theorem arg2_of {H : Type} {enc : TypeId × Value → H} {W : World} {held : Bool} {base : Nat} {a : Option Addr} {len cap : Nat} {d : DataW H} {ps : List MemPlace} {fuel : Nat}
    (hs : ∀ b : Nat, (fun _ => true) b = true) (h : DataW.trod enc Tryd.prog W base (fun _ => true) held fuel 30 (Value.slice a len cap).cells.toList = some (d, ps)) :
    ∃ (A : Nat → Option Addr) (L C : Nat → Nat) (Z : Nat → Nat → Int), Arg2 W a len cap A L C Z ∧ ∀ i k, (Lit.int .u8 (Z i k)).wf = true := by
  rcases Deep.open_int_rows Tryd.underlying30 Tryd.underlying22 Tryd.underlying5 (by kernel_rfl) (by kernel_rfl) h with ⟨hcs, _⟩ | ⟨x, l, c, A, L, C, Z, hcs, _, hl, hm, _, hr⟩
  · simp [Value.cells] at hcs
    obtain ⟨rfl, rfl, rfl⟩ := hcs
    exact ⟨fun _ => none, fun _ => 0, fun _ => 0, fun _ _ => 0, ⟨⟨Nat.le_refl _, by unfold maxLen; omega, .inl rfl⟩, fun r hr => by omega⟩, fun _ _ => rfl⟩
  · simp [Value.cells] at hcs
    obtain ⟨rfl, rfl, rfl⟩ := hcs
    refine ⟨A, L, C, fun r i => if r < cap then (Z r).getD i 0 else 0, ⟨arg_of hl hm (fun i hi => (hr i (by omega)).1), fun r hrl => ?_⟩, fun r i => ?_⟩
    · obtain ⟨_, h1, h2, h3, h4, h5, h6⟩ := hr r (by omega)
      cases hA : A r with
      | none => exact ⟨h1, h2, .inl (by have := h5 hA; omega)⟩
      | some a' =>
        refine arg_of h1 h2 (fun i hi => ?_)
        rw [if_pos (by omega)]
        exact (h6 a' hA).2 i (by omega)
    · dsimp only
      split
      · rename_i hrc
        obtain ⟨_, h1, h2, h3, h4, h5, h6⟩ := hr r hrc
        rcases Nat.lt_or_ge i (Z r).length with hi | hi
        · have e : (Z r).getD i 0 = (Z r)[i] := by simp [hi]
          rw [e]; exact h4 _ (List.getElem_mem hi)
        · have e : (Z r).getD i 0 = 0 := by rw [List.getD_eq_getElem?_getD, List.getElem?_eq_none hi]; rfl
          rw [e]; rfl
      · rfl
theorem crc_snoc (xs ys : List Nat) : crc 0xFFFF#16 (xs ++ ys) = crc (crc 0xFFFF#16 xs) ys := crc_append _ _ _
theorem cut_hi (s : Nat) (h : s < 65536) : IntKind.u8.wrap ((s : Int) / 256) = ((s / 256 : Nat) : Int) := by
  rw [show (s : Int) / 256 = ((s / 256 : Nat) : Int) by omega]; exact wrap_u8 (by omega)
theorem cut_lo (s : Nat) : IntKind.u8.wrap (s : Int) = ((s % 256 : Nat) : Int) := by
  unfold IntKind.wrap
  simp only [IntKind.signed, Bool.false_and, IntKind.bits]
  rw [if_neg (by simp)]
  omega
theorem app_byte {xs ys : List Nat} (h : ∀ y ∈ xs, y < 256) (k : ∀ y ∈ ys, y < 256) : ∀ y ∈ xs ++ ys, y < 256 := by
  intro y hy; rcases List.mem_append.1 hy with hy | hy
  · exact h y hy
  · exact k y hy
set_option maxRecDepth 100000 in
set_option maxHeartbeats 4000000 in
theorem crcPieces_walk (p : Option Addr) (n cap : Nat) (A : Nat → Option Addr) (L C : Nat → Nat) (Z : Nat → Nat → Int) (w : World) (hT : Tab w) (h : Arg2 w p n cap A L C Z) (hz : ∀ i k, (Lit.int .u8 (Z i k)).wf = true) :
    Calls Tryd.prog 4 #[.slice p n cap] w fun e w' => e = .returned (.bool true) ∧ Below w.heap.size w w' := by
  have hle := h.out.le; have hmost := h.out.most
  unfold maxLen at hmost
  have hsh := shown w hT
  have hnil := fun W (hb : Below w.heap.size w W) => sumC none 0 [] W (hT.below hb hT.pos) ⟨Nat.le_refl _, by unfold maxLen; omega, .inl rfl⟩ (by simp)
  rw [crc_nil] at hnil
  rw [show ((0xFFFF#16).toNat : Int) = 65535 from rfl] at hnil
  have H := hid h; have HT := hid hT; have HNIL := hid hnil
  clear h hT hnil
  go_enter Tryd.func4, Tryd.ntmps4
  go_wp2_with fail
  refine hsh.mono ?_; rintro e w0 ⟨rfl, hB0⟩
  have hnil := HNIL.out w0 hB0
  clear hsh HNIL
  go_wp2_with fail
  refine hnil.mono ?_; rintro e w9 ⟨rfl, rfl⟩
  clear hnil
  go_wp2_with fail
  have hr0 := row_new w9
  have hB1 : Below w.heap.size w (w9.alloc (.cells #[] 5)) := hB0.alloc hB0.size _
  have hG1 : w9.heap.size ≤ (w9.alloc (.cells #[] 5)).heap.size := by simp
  have hG := hB0.size
  generalize w9.alloc (.cells #[] 5) = w1 at *
  obtain ⟨G, hGe⟩ : ∃ G, w9.heap.size = G := ⟨_, rfl⟩
  rw [hGe] at hr0 hG hG1 ⊢
  have HR0 := hid hr0
  clear hr0 hGe hB0
  go_loopw [4, 5, 6, 7] (fun s v i _ wr => ∃ (k : Nat) (zs : List Nat), i = .int .i64 k ∧ k ≤ min n 30 ∧ (∀ y ∈ zs, y < 256) ∧ zs.length ≤ 200 * k ∧ s = .int .u16 ((crc 0xFFFF#16 zs).toNat : Int) ∧ Row wr G v zs ∧ Below w.heap.size w wr ∧ G ≤ wr.heap.size) (fun _ _ i _ _ => 30 - (intOf i).toNat)
  case atStart => exact ⟨0, [], rfl, Nat.zero_le _, by simp, by simp, rfl, HR0.out, hB1, hG1⟩
  case round =>
    obtain ⟨k, zs, rfl, hk, hzy, hzl, rfl, hrow, hB, hG2⟩ := hrel
    clear HR0 hB1 hG1
    by_cases hlt : k < min n 30
    · have i1 : (k : Int) < (n : Int) := by omega
      have i2 : (k : Int) < 30 := by omega
      obtain ⟨ab, ao, rfl, lt1, hcs⟩ := (H.out.keep hB).out.at (i := k) (by omega)
      have c1 := hcs k (by omega)
      have hin := H.out.inn k (by omega)
      have hLC := hin.le; have hCm := hin.most
      unfold maxLen at hCm
      obtain ⟨us, hul, huy, hua⟩ := hin.bytes (hz k) (k := min (L k) 200) (by omega)
      obtain ⟨a, haE⟩ : ∃ a, A k = a := ⟨_, rfl⟩
      obtain ⟨l, hlE⟩ : ∃ l, L k = l := ⟨_, rfl⟩
      obtain ⟨c, hcE⟩ : ∃ c, C k = c := ⟨_, rfl⟩
      rw [haE, hlE, hcE] at c1
      rw [haE, hcE] at hua
      rw [hlE] at hLC hul
      rw [hcE] at hLC hCm
      have hmo := fun W (hb : Below w.heap.size w W) => more (crc 0xFFFF#16 zs) a c us W (HT.out.below hb HT.out.pos) (hua.keep hb) huy
      have hap := fun (q : Nat) => append_row (p := a) (cap := c) (zs := us) 22 (hrow.below (below_drewN wr q)) (hua.keep (hB.trans (below_drewN wr q))) hG2 (by omega)
      obtain ⟨q0, c0, rfl, _⟩ := hrow.arg
      obtain ⟨M, hM⟩ : ∃ M, us.length = M := ⟨_, rfl⟩
      rw [hM] at hmo hap hul
      have HM := hid hmo; have HAP := hid hap; have HU := hid huy; have HUL := hid (show us.length ≤ 200 by omega)
      have hcase : ((200 : Int) < (l : Int) ∧ M = 200) ∨ ((l : Int) ≤ 200 ∧ l = M) := by omega
      obtain ⟨x, hx⟩ : ∃ x, (crc 0xFFFF#16 zs).toNat = x := ⟨_, rfl⟩
      generalize hzlen : zs.length = m0 at *
      clear hcs hin hmo hap huy hua haE hlE hcE hrow hul hM
      rw [hx] at HM ⊢
      clear hx
      rcases hcase with ⟨g1, rfl⟩ | ⟨g1, rfl⟩
      · skip
        -- the piece is us, M bytes of it
        go_wp2_with fail
        go_quiet (fail)
        go_wp2_with fail
        refine (HM.out (wr.drewN nq) (hB.trans (below_drewN wr nq)) ).mono ?_; rintro e w5 ⟨rfl, rfl⟩
        obtain ⟨v6, w6, r6, row6, b6⟩ := HAP.out nq
        obtain ⟨q6, c6, rfl, _⟩ := row6.arg
        obtain ⟨m6, hm6⟩ : ∃ m, (zs ++ us).length = m := ⟨_, rfl⟩
        rw [hm6] at r6 row6
        clear hm6
        have HROW6 := hid row6
        have hB6 := (hB.trans (below_drewN wr nq)).trans (b6.mono hG)
        have hG6 : G ≤ w6.heap.size := Nat.le_trans hG2 b6.size
        clear row6 b6
        go_wp2_with (at_builtin; refine Lib.wpList_append_run _ rfl _ _ _ _ rfl _ _ rfl rfl _ _ r6 ?_; clear r6)
        go_roundw
        case rel => exact ⟨k + 1, zs ++ us, by go_num, by omega, app_byte hzy HU.out, by rw [List.length_append]; have := HUL.out; omega, by rw [crc_snoc], HROW6.out, hB6, hG6⟩
        case measure => simp [intOf]; omega
      · skip
        -- the piece is us, M bytes of it
        go_wp2_with fail
        go_quiet (fail)
        go_wp2_with fail
        refine (HM.out (wr.drewN nq) (hB.trans (below_drewN wr nq)) ).mono ?_; rintro e w5 ⟨rfl, rfl⟩
        obtain ⟨v6, w6, r6, row6, b6⟩ := HAP.out nq
        obtain ⟨q6, c6, rfl, _⟩ := row6.arg
        obtain ⟨m6, hm6⟩ : ∃ m, (zs ++ us).length = m := ⟨_, rfl⟩
        rw [hm6] at r6 row6
        clear hm6
        have HROW6 := hid row6
        have hB6 := (hB.trans (below_drewN wr nq)).trans (b6.mono hG)
        have hG6 : G ≤ w6.heap.size := Nat.le_trans hG2 b6.size
        clear row6 b6
        go_wp2_with (at_builtin; refine Lib.wpList_append_run _ rfl _ _ _ _ rfl _ _ rfl rfl _ _ r6 ?_; clear r6)
        go_roundw
        case rel => exact ⟨k + 1, zs ++ us, by go_num, by omega, app_byte hzy HU.out, by rw [List.length_append]; have := HUL.out; omega, by rw [crc_snoc], HROW6.out, hB6, hG6⟩
        case measure => simp [intOf]; omega
    · obtain ⟨q0, c0, rfl, ha⟩ := hrow.arg
      have s1 := sumC q0 c0 zs wr (HT.out.below hB HT.out.pos) ha hzy
      have hb2 : Below wr.heap.size wr (wr.alloc (.cells (u8s [(crc 0xFFFF#16 zs).toNat / 256, (crc 0xFFFF#16 zs).toNat % 256]).toArray 5)) := (Below.refl _ _).alloc (Nat.le_refl _) _
      have hx65 := (crc 0xFFFF#16 zs).isLt
      obtain ⟨q2, c2, hv2, ha2⟩ := (row_lit wr [(crc 0xFFFF#16 zs).toNat / 256, (crc 0xFFFF#16 zs).toNat % 256] (by simp)).arg
      cases hv2
      have s2 := more (crc 0xFFFF#16 zs) _ _ _ _ (HT.out.below (hB.trans (hb2.mono hB.size)) HT.out.pos) ha2 (by intro y hy; simp at hy; omega)
      rw [crc_own] at s2
      have hBe := hB.trans (hb2.mono hB.size)
      obtain ⟨x, hx⟩ : ∃ x, (crc 0xFFFF#16 zs).toNat = x := ⟨_, rfl⟩
      obtain ⟨m0, hm0⟩ : ∃ m, zs.length = m := ⟨_, rfl⟩
      rw [hx] at s1 s2 hx65 hBe ⊢
      rw [hm0] at s1 ⊢
      have e1 := cut_hi x hx65
      have e2 := cut_lo x
      have s3 : Calls Tryd.prog 11 #[.int .u16 (x : Int), .slice (some ⟨wr.heap.size, 0, none⟩) 2 2] (wr.alloc (.cells #[.int .u8 ((x / 256 : Nat) : Int), .int .u8 ((x % 256 : Nat) : Int)] 5)) fun e w' => e = .returned (.int .u16 0) ∧ w' = (wr.alloc (.cells #[.int .u8 ((x / 256 : Nat) : Int), .int .u8 ((x % 256 : Nat) : Int)] 5)) := s2
      have hBe' : Below w.heap.size w (wr.alloc (.cells #[.int .u8 ((x / 256 : Nat) : Int), .int .u8 ((x % 256 : Nat) : Int)] 5)) := hBe
      obtain ⟨y1, hy1⟩ : ∃ y, x / 256 = y := ⟨_, rfl⟩
      obtain ⟨y2, hy2⟩ : ∃ y, x % 256 = y := ⟨_, rfl⟩
      rw [hy1] at e1 s3 hBe'
      rw [hy2] at e2 s3 hBe'
      have hcase : ((k : Int) < (n : Int) ∧ ¬ (k : Int) < 30) ∨ ¬ (k : Int) < (n : Int) := by omega
      clear s2 ha ha2 hb2 hx hm0 hBe hrow hy1 hy2 H HT
      rcases hcase with ⟨g1, g2⟩ | g1
      all_goals
        go_wp2_with fail
        refine s1.mono ?_; rintro e w5 ⟨rfl, rfl⟩
        clear s1
        go_wp2_with fail
        refine s3.mono ?_; rintro e w6 ⟨rfl, rfl⟩
        clear s3
        go_wp2_with fail
        go_ret
        exact ⟨rfl, hBe'⟩
end Go.Proofs.YtablaoapbddhfaaDoor
