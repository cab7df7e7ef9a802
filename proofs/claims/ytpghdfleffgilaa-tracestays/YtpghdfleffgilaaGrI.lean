/- Layer 9 (grid): the contract of Sight. -/
import Derived.Test.YtpghdfleffgilaaGrH
namespace Go.Proofs.Ytpghdfleffgilaa
open Go.RowKit
set_option linter.unusedVariables false
set_option linter.unusedSimpArgs false
attribute [local go_sem ↓] Go.wp_at_zero Go.wp_at_succ

theorem stp3_eq {f t c n1 n2 n3 : Int} {r : Bool} : stp3 f t c r n1 n2 n3 = stp1 f t c r (edgeI n1 n2 n3) (longI n1 n2) := by
  unfold stp3 stpB stp1; simp
theorem sel_stp {f1 f2 f3 t1 t2 t3 c1 c2 c3 e l : Int} {r : Bool} : sel (stp1 f1 t1 c1 r e l) (stp1 f2 t2 c2 r e l) (stp1 f3 t3 c3 r e l) = stp (sel f1 f2 f3) (sel t1 t2 t3) (sel c1 c2 c3) r e l := by
  funext i
  match i with
  | 0 => rfl
  | 1 => rfl
  | n + 2 => rfl
theorem Rg_stp1 {f t c e l : Int} {r : Bool} (h : Rg f t c) : Rg f t (stp1 f t c r e l) := by
  unfold stp1; split
  · rename_i k; exact Rg_step h k.2.1
  · exact h
theorem AxOk_of {f t c : Int} (f0 : 0 ≤ f) (f1 : f < 2097152) (t0 : 0 ≤ t) (t1 : t < 2097152) (h : Rg f t c) : AxOk f t c := by
  obtain ⟨h1, h2⟩ := h
  by_cases e : f < t
  · have := h1 e; exact ⟨by omega, by omega, by omega, by omega, by omega, by omega⟩
  · have := h2 (by omega); exact ⟨by omega, by omega, by omega, by omega, by omega, by omega⟩
theorem Fr.cellK {w w' : World} {S : Nat → Prop} (hf : Fr S w w') {b o : Nat} {v : Value} (hlt : b < w.heap.size) (hS : ¬ S b) (h : w.cell? ⟨b, o, none⟩ = some v) : w'.cell? ⟨b, o, none⟩ = some v := by
  unfold World.cell? at h ⊢
  rw [hf.block b hlt hS]; exact h
theorem MapAt.fr {w w' : World} {S : Nat → Prop} {b : Nat} {W D H : Int} {x y : Value} (h : MapAt w b W D H x y) (hf : Fr S w w') (hS : ¬ S b) : MapAt w' b W D H x y :=
  ⟨Nat.lt_of_lt_of_le h.lt hf.size, hf.cellK h.lt hS h.c0, hf.cellK h.lt hS h.c1, hf.cellK h.lt hS h.c2, hf.cellK h.lt hS h.c3, hf.cellK h.lt hS h.c4⟩
theorem blind_a {M : Mp} {a b : V3} (h : ¬ M.Free (a.x / 65536) (a.y / 65536) (a.z / 65536)) : ¬ M.Sees a b := fun hs => h (by
  have := hs 0 (by grind) (by grind)
  rw [Mp.At.of (x := a.x / 65536) (y := a.y / 65536) (z := a.z / 65536)] at this
  · exact this
  · rw [posn_0]; exact InC.of _
  · rw [posn_0]; exact InC.of _
  · rw [posn_0]; exact InC.of _)
theorem blind_b {M : Mp} {a b : V3} (h : ¬ M.Free (b.x / 65536) (b.y / 65536) (b.z / 65536)) : ¬ M.Sees a b := fun hs => h (by
  have := hs 1 (by grind) (by grind)
  rw [Mp.At.of (x := b.x / 65536) (y := b.y / 65536) (z := b.z / 65536)] at this
  · exact this
  · rw [posn_1]; exact InC.of _
  · rw [posn_1]; exact InC.of _
  · rw [posn_1]; exact InC.of _)
theorem Free.near {M : Mp} {x y z : Int} (h : M.Free (x / 65536) (y / 65536) (z / 65536)) : (0 ≤ x ∧ x < 2097152) ∧ (0 ≤ y ∧ y < 2097152) ∧ (0 ≤ z ∧ z < 2097152) := by
  obtain ⟨⟨_, _, _, _, _, _, _⟩, _, _, _, _, _, _, _⟩ := h
  omega
theorem all_sel {p : Int → Int → Int → Prop} {f1 f2 f3 t1 t2 t3 c1 c2 c3 : Int} (h1 : p f1 t1 c1) (h2 : p f2 t2 c2) (h3 : p f3 t3 c3) : ∀ i, p (sel f1 f2 f3 i) (sel t1 t2 t3 i) (sel c1 c2 c3 i)
  | 0 => h1
  | 1 => h2
  | _ + 2 => h3
theorem Nx.first3 {F T C : Nat → Int} {x y z : Int} (hF : ∀ i, F (i + 2) = F 2) (hT : ∀ i, T (i + 2) = T 2) (hC : ∀ i, C (i + 2) = C 2) (h : Nx F T C 3 true x y z) : ∃ k, k < 3 ∧ First F T C k ∧ x = F k ∧ y = T k ∧ z = C k := by
  cases h with
  | yes k hk g h =>
    refine ⟨k, hk, ⟨g, fun j gj => ?_⟩, rfl, rfl, rfl⟩
    by_cases e : j < 3
    · exact h j e gj
    · obtain ⟨i, rfl⟩ : ∃ i, j = i + 2 := ⟨j - 2, by omega⟩
      rw [hF, hT, hC] at *
      exact h 2 (by omega) gj
theorem Nx.none3 {F T C : Nat → Int} {x y z : Int} (hF : ∀ i, F (i + 2) = F 2) (hT : ∀ i, T (i + 2) = T 2) (hC : ∀ i, C (i + 2) = C 2) (h : Nx F T C 3 false x y z) : ∀ j, ¬ Goes (T j) (C j) := by
  cases h with
  | no h =>
    intro j
    by_cases e : j < 3
    · exact h j e
    · obtain ⟨i, rfl⟩ : ∃ i, j = i + 2 := ⟨j - 2, by omega⟩
      rw [hT, hC]
      exact h 2 (by omega)
theorem rd_eq {w : World} {b o : Nat} {v : Value} (h : w.cell? ⟨b, o, none⟩ = some v) : rd w b o = v := by unfold rd; rw [h]; rfl
theorem sel_far {x y z : Int} : ∀ i, sel x y z (i + 2) = sel x y z 2 := fun _ => rfl
set_option maxHeartbeats 4000000 in
theorem gridSightIn (W D H : Int) (mp : Option Addr) (mn mc : Nat) (mf : Nat → Bool) (sp : Option Addr) (sn sc : Nat) (a1 a2 a3 : Int) (b1 b2 b3 : Int) (ha1 : I64 a1) (ha2 : I64 a2) (ha3 : I64 a3) (hb1 : I64 b1) (hb2 : I64 b2) (hb3 : I64 b3) (w : World) (hm : Arg w mp mn mc fun i => .bool (mf i)) (s : Bool) (hs : s = true ↔ (mpOf W D H mn mf).Sees ⟨a1, a2, a3⟩ ⟨b1, b2, b3⟩)
    (ha : (mpOf W D H mn mf).Free (a1 / 65536) (a2 / 65536) (a3 / 65536)) (hb : (mpOf W D H mn mf).Free (b1 / 65536) (b2 / 65536) (b3 / 65536)) :
    Calls Try.prog 16 #[.agg #[.int .i64 W, .int .i64 D, .int .i64 H, .slice mp mn mc, .slice sp sn sc], .agg #[.int .i64 a1, .int .i64 a2, .int .i64 a3], .agg #[.int .i64 b1, .int .i64 b2, .int .i64 b3]] w fun e w' => e = .returned (.bool s) ∧ Below w.heap.size w w' := by
  obtain ⟨⟨na1, na2⟩, ⟨na3, na4⟩, ⟨na5, na6⟩⟩ := Free.near ha
  obtain ⟨⟨nb1, nb2⟩, ⟨nb3, nb4⟩, ⟨nb5, nb6⟩⟩ := Free.near hb
  have hinv : Inv (mpOf W D H mn mf) (sel a1 a2 a3) (sel b1 b2 b3) (sel (a1 / 65536) (a2 / 65536) (a3 / 65536)) := by
    have e : (fun i => sel a1 a2 a3 i / 65536) = sel (a1 / 65536) (a2 / 65536) (a3 / 65536) := by
      funext i
      match i with
      | 0 => rfl
      | 1 => rfl
      | n + 2 => rfl
    rw [← e]
    exact Inv.start ha
  have hax : ∀ c1 c2 c3, (∀ i, Rg (sel a1 a2 a3 i) (sel b1 b2 b3 i) (sel c1 c2 c3 i)) → AxOk a1 b1 c1 ∧ AxOk a2 b2 c2 ∧ AxOk a3 b3 c3 := fun c1 c2 c3 h =>
    ⟨AxOk_of na1 na2 nb1 nb2 (h 0), AxOk_of na3 na4 nb3 nb4 (h 1), AxOk_of na5 na6 nb5 nb6 (h 2)⟩
  have HS := hid hs
  have HAX := hid hax
  have HINV := hid hinv
  have hfa := Mp.solid_f.2 ha
  have hfb := Mp.solid_f.2 hb
  have HM := hid hm
  have hsa := fun V (hV : Below w.heap.size w V) => gridSolidAt W D H mp mn mc mf sp sn sc a1 a2 a3 ha1 ha2 ha3 V (hm.keep hV)
  have hsb := fun V (hV : Below w.heap.size w V) => gridSolidAt W D H mp mn mc mf sp sn sc b1 b2 b3 hb1 hb2 hb3 V (hm.keep hV)
  rw [hfa] at hsa
  rw [hfb] at hsb
  have HSA := hid hsa
  have HSB := hid hsb
  clear hs hax hinv hfa hfb hm ha hb hsa hsb
  go_enter Try.func16, Try.ntmps16
  have B0 : Below w.heap.size w (((w.alloc (.cells #[.int .i64 W, .int .i64 D, .int .i64 H, .slice mp mn mc, .slice sp sn sc] 25)).alloc (.cells #[.int .i64 a1, .int .i64 a2, .int .i64 a3] 27)).alloc (.cells #[.int .i64 b1, .int .i64 b2, .int .i64 b3] 27)) := (((Below.refl _ _).alloc (Nat.le_refl _) _).alloc (by simp) _).alloc (by simp; omega) _
  have M0 := ((MapAt.new w W D H (.slice mp mn mc) (.slice sp sn sc) 25).alloc (.cells #[.int .i64 a1, .int .i64 a2, .int .i64 a3] 27)).alloc (.cells #[.int .i64 b1, .int .i64 b2, .int .i64 b3] 27)
  have A0 : B3 (((w.alloc (.cells #[.int .i64 W, .int .i64 D, .int .i64 H, .slice mp mn mc, .slice sp sn sc] 25)).alloc (.cells #[.int .i64 a1, .int .i64 a2, .int .i64 a3] 27)).alloc (.cells #[.int .i64 b1, .int .i64 b2, .int .i64 b3] 27)) (w.heap.size + 1) 27 a1 a2 a3 := (B3.new' _ _ _ _ _ (by simp)).alloc _
  have E0 : B3 (((w.alloc (.cells #[.int .i64 W, .int .i64 D, .int .i64 H, .slice mp mn mc, .slice sp sn sc] 25)).alloc (.cells #[.int .i64 a1, .int .i64 a2, .int .i64 a3] 27)).alloc (.cells #[.int .i64 b1, .int .i64 b2, .int .i64 b3] 27)) (w.heap.size + 1 + 1) 27 b1 b2 b3 := B3.new' _ _ _ _ _ (by simp)
  go_wp2_with fail
  refine (HSA.out _ B0).mono ?_; rintro e V1 ⟨rfl, q1⟩
  have B1 := B0.trans (q1.mono B0.size)
  have M1 := M0.keep q1
  have A1 := A0.keep q1
  have E1 := E0.keep q1
  clear q1 B0 M0 A0 E0
  obtain ⟨m0, m1, m2, m3, m4, m5⟩ := M1
  obtain ⟨x0, x1, x2⟩ := A1.cells
  obtain ⟨y0, y1, y2⟩ := E1.cells
  go_wp2_with fail
  refine (HSB.out _ B1).mono ?_; rintro e V2 ⟨rfl, q2⟩
  have M2 := (MapAt.mk m0 m1 m2 m3 m4 m5).keep q2
  have B2 := B1.trans (q2.mono B1.size)
  have A2 := A1.keep q2
  have E2 := E1.keep q2
  clear q2 B1 A1 E1 m0 m1 m2 m3 m4 m5 x0 x1 x2 y0 y1 y2
  obtain ⟨x0, x1, x2⟩ := A2.cells
  obtain ⟨y0, y1, y2⟩ := E2.cells
  go_wp2_with fail
  refine (gridBetween a1 a2 a3 b1 b2 b3 ha1 ha2 ha3 _).mono ?_; rintro e V3 ⟨rfl, q3⟩
  have M3 := M2.keep q3
  have B3' := B2.trans (q3.mono B2.size)
  clear q3 B2 A2 E2 M2 x0 x1 x2 y0 y1 y2
  obtain ⟨c1, hc1⟩ : ∃ c, a1 / 65536 = c := ⟨_, rfl⟩
  obtain ⟨c2, hc2⟩ : ∃ c, a2 / 65536 = c := ⟨_, rfl⟩
  obtain ⟨c3, hc3⟩ : ∃ c, a3 / 65536 = c := ⟨_, rfl⟩
  rw [hc1, hc2, hc3] at HINV
  simp only [hc1, hc2, hc3]
  clear hc1 hc2 hc3
  have hL4 : L9 (V3.alloc (.cells #[.int .i64 a1, .int .i64 b1, .int .i64 c1, .int .i64 a2, .int .i64 b2, .int .i64 c2, .int .i64 a3, .int .i64 b3, .int .i64 c3] 51)) V3.heap.size a1 b1 c1 a2 b2 c2 a3 b3 c3 := ⟨heap_alloc_new _ _⟩
  have M4 := M3.alloc (.cells #[.int .i64 a1, .int .i64 b1, .int .i64 c1, .int .i64 a2, .int .i64 b2, .int .i64 c2, .int .i64 a3, .int .i64 b3, .int .i64 c3] 51)
  have B4 := B3'.alloc B3'.size (.cells #[.int .i64 a1, .int .i64 b1, .int .i64 c1, .int .i64 a2, .int .i64 b2, .int .i64 c2, .int .i64 a3, .int .i64 b3, .int .i64 c3] 51)
  obtain ⟨lb, hlb⟩ : ∃ b, V3.heap.size = b := ⟨_, rfl⟩
  obtain ⟨mb, hmb⟩ : ∃ b, w.heap.size = b := ⟨_, rfl⟩
  have hmlb : mb < lb := by rw [← hlb, ← hmb]; exact M3.lt
  have hBlb : w.heap.size ≤ lb := by rw [← hlb]; exact B3'.size
  rw [hlb] at hL4
  rw [hmb] at M4
  clear M3 B3'
  go_wp2_with fail
  simp only [hlb, hmb]
  have hnx := fun V => lineNext0 a1 b1 c1 a2 b2 c2 a3 b3 c3 _ _ _ rfl rfl rfl (all_sel (p := AxOk) (HAX.out _ _ _ HINV.out.rg).1 (HAX.out _ _ _ HINV.out.rg).2.1 (HAX.out _ _ _ HINV.out.rg).2.2) HINV.out.rg V
  refine (hnx _).mono ?_; rintro e V5 ⟨⟨b, x, y, z, hN, rfl⟩, q5⟩
  clear hnx
  have M5 := M4.keep q5
  have hL5 := hL4.keep q5
  have B5 := B4.trans (q5.mono B4.size)
  have HN := hid hN
  clear q5 M4 hL4 B4 hlb hN
  go_wp2
  go_loopw [9, 8] (fun fv nv wr => ∃ (c1 c2 c3 : Int) (b : Bool) (x y z : Int) (nk : Nat), fv = .bool b ∧ nv = .pointer (some ⟨nk, 0, none⟩) ∧ nk ≠ lb ∧ Hid (Inv (mpOf W D H mn mf) (sel a1 a2 a3) (sel b1 b2 b3) (sel c1 c2 c3)) ∧ Hid (Nx (sel a1 a2 a3) (sel b1 b2 b3) (sel c1 c2 c3) 3 b x y z) ∧ L9 wr lb a1 b1 c1 a2 b2 c2 a3 b3 c3 ∧ B3 wr nk 49 x y z ∧ MapAt wr mb W D H (.slice mp mn mc) (.slice sp sn sc) ∧ Below w.heap.size w wr) (fun _ _ wr => ahead (sel b1 b2 b3) (sel (intOf (rd wr lb 2)) (intOf (rd wr lb 5)) (intOf (rd wr lb 8))))
  case atStart =>
    exact ⟨c1, c2, c3, b, x, y, z, V5.heap.size, rfl, rfl, (fun e => by have := hL5.lt; omega), HINV, HN, hL5.keep ((Below.refl _ _).alloc (Nat.le_refl _) _), B3.new _ _ _ _ _, M5.alloc _, B5.alloc B5.size _⟩
  case round =>
    clear HINV HN hL5 M5 B5
    obtain ⟨c1, c2, c3, b, x, y, z, nk, rfl, rfl, hnl, HINV, HN, hL, hN3, hM, hB⟩ := hrel
    have hnlt := hN3.lt
    cases b with
    | false =>
      have hT : s = true := HS.out.2 (HINV.out.done (HN.out.none3 sel_far sel_far sel_far))
      subst hT
      go_wp2
      go_ret
      exact ⟨rfl, hmb ▸ hB⟩
    | true =>
      have hmeas := hid (show ahead (sel b1 b2 b3) (sel (intOf (rd wr lb 2)) (intOf (rd wr lb 5)) (intOf (rd wr lb 8))) = ahead (sel b1 b2 b3) (sel c1 c2 c3) by
        obtain ⟨l0, l1, l2, l3, l4, l5, l6, l7, l8⟩ := hL.cells
        rw [rd_eq l2, rd_eq l5, rd_eq l8]; rfl)
      obtain ⟨e1, e2, e3⟩ := HAX.out _ _ _ HINV.out.rg
      obtain ⟨k, hk3, hk, hx, hy, hz⟩ := HN.out.first3 sel_far sel_far sel_far
      have HK := hid hk
      have en : AxOk x y z := HN.out.ok (all_sel (p := AxOk) e1 e2 e3)
      have HX := hid (show x = sel a1 a2 a3 k ∧ y = sel b1 b2 b3 k ∧ z = sel c1 c2 c3 k from ⟨hx, hy, hz⟩)
      clear hx hy hz hk HN
      have j0 : ∀ w, (Instr.index 55 (.agg #[.bool true, .bool false]) (.int .i64 0)).run Try.prog w = .ok (.bool true) w := fun _ => by kernel_rfl
      have j1 : ∀ w, (Instr.index 55 (.agg #[.bool true, .bool false]) (.int .i64 1)).run Try.prog w = .ok (.bool false) w := fun _ => by kernel_rfl
      go_wp2
      refine wp_loop_rounds 3 ?_
      rw [rounds_succ]
      have hLa := hL.keep ((Below.refl _ _).alloc (Nat.le_refl _) (.cells #[.bool true] 4))
      have hNa := hN3.keep ((Below.refl _ _).alloc (Nat.le_refl _) (.cells #[.bool true] 4))
      have hMa := hM.alloc (.cells #[.bool true] 4)
      have hBa := hB.alloc hB.size (.cells #[.bool true] 4)
      have hVa := Vr.new wr 4 (.bool true)
      have hrl : wr.heap.size ≠ lb := fun e => by have := hL.lt; omega
      go_wp2_with fail
      refine (lineStep a1 b1 c1 a2 b2 c2 a3 b3 c3 x y z true lb wr.heap.size nk e1 e2 e3 en _ hrl hnl hVa hNa hLa).mono ?_; rintro e U1 ⟨rfl, hF1, hL1⟩
      have M1 := hMa.fr hF1 (fun e => by omega)
      have N1 := hNa.fr hF1 hnl
      have B1 := hBa.trans (hF1.below hBa.size (fun k e => e ▸ hBlb))
      obtain ⟨d1, hd1⟩ : ∃ d, stp3 a1 b1 c1 true x y z = d := ⟨_, rfl⟩
      obtain ⟨d2, hd2⟩ : ∃ d, stp3 a2 b2 c2 true x y z = d := ⟨_, rfl⟩
      obtain ⟨d3, hd3⟩ : ∃ d, stp3 a3 b3 c3 true x y z = d := ⟨_, rfl⟩
      have hcd : sel d1 d2 d3 = stp (sel a1 a2 a3) (sel b1 b2 b3) (sel c1 c2 c3) true (edgeI x y z) (longI x y) := by rw [← sel_stp, ← stp3_eq, ← stp3_eq, ← stp3_eq, hd1, hd2, hd3]
      have hrgd : ∀ i, Rg (sel a1 a2 a3 i) (sel b1 b2 b3 i) (sel d1 d2 d3 i) := fun i => by rw [hcd]; exact Rg_stp1 (HINV.out.rg i)
      obtain ⟨f1, f2, f3⟩ := HAX.out _ _ _ hrgd
      rw [hd1, hd2, hd3] at hL1
      have HCD := hid hcd
      have HRGD := hid hrgd
      clear hF1 hMa hNa hBa hLa hVa hL hN3 hM hB hd1 hd2 hd3 hcd hrgd hrl hnlt
      obtain ⟨m0, m1, m2, m3, m4, m5⟩ := M1
      obtain ⟨l0, l1, l2, l3, l4, l5, l6, l7, l8⟩ := hL1.cells
      go_wp2_with fail
      refine (lineSolid W D H mp mn mc mf sp sn sc a1 b1 d1 a2 b2 d2 a3 b3 d3 U1 (HM.out.keep B1)).mono ?_; rintro e U2 ⟨rfl, q2⟩
      have M2 := (MapAt.mk m0 m1 m2 m3 m4 m5).keep q2
      have L2 := hL1.keep q2
      have N2 := N1.keep q2
      have B2 := B1.trans (q2.mono B1.size)
      clear q2 N1 B1 hL1 m0 m1 m2 m3 m4 m5 l0 l1 l2 l3 l4 l5 l6 l7 l8
      cases hsol : (mpOf W D H mn mf).solid d1 d2 d3 with
      | true =>
        have hF : s = false := by
          cases s with
          | false => rfl
          | true =>
            obtain ⟨hx, hy, hz⟩ := HX.out
            have hC := HCD.out
            rw [hx, hy, hz] at hC
            exact absurd (HS.out.1 rfl) (HINV.out.blind_up HK.out hC (Mp.solid_t.1 hsol))
        subst hF
        clear hsol
        go_wp2
        go_ret
        exact ⟨rfl, hmb ▸ B2⟩
      | false =>
        have HFR := hid (Mp.solid_f.1 hsol)
        clear hsol
        go_wp2
        rw [rounds_succ]
        have hLa := L2.keep ((Below.refl _ _).alloc (Nat.le_refl _) (.cells #[.bool false] 4))
        have hNa := N2.keep ((Below.refl _ _).alloc (Nat.le_refl _) (.cells #[.bool false] 4))
        have hMa := M2.alloc (.cells #[.bool false] 4)
        have hBa := B2.alloc B2.size (.cells #[.bool false] 4)
        have hVa := Vr.new U2 4 (.bool false)
        have hrl : U2.heap.size ≠ lb := fun e => by have := L2.lt; omega
        go_wp2_with fail
        refine (lineStep a1 b1 d1 a2 b2 d2 a3 b3 d3 x y z false lb U2.heap.size nk f1 f2 f3 en _ hrl hnl hVa hNa hLa).mono ?_; rintro e U3 ⟨rfl, hF3, hL3⟩
        have M3 := hMa.fr hF3 (fun e => by omega)
        have N3 := hNa.fr hF3 hnl
        have B3' := hBa.trans (hF3.below hBa.size (fun k e => e ▸ hBlb))
        obtain ⟨g1, hg1⟩ : ∃ d, stp3 a1 b1 d1 false x y z = d := ⟨_, rfl⟩
        obtain ⟨g2, hg2⟩ : ∃ d, stp3 a2 b2 d2 false x y z = d := ⟨_, rfl⟩
        obtain ⟨g3, hg3⟩ : ∃ d, stp3 a3 b3 d3 false x y z = d := ⟨_, rfl⟩
        have hcg : both (sel a1 a2 a3) (sel b1 b2 b3) (sel c1 c2 c3) k = sel g1 g2 g3 := by
          unfold both
          obtain ⟨hx, hy, hz⟩ := HX.out
          rw [← hx, ← hy, ← hz, ← HCD.out, ← sel_stp, ← stp3_eq, ← stp3_eq, ← stp3_eq, hg1, hg2, hg3]
        rw [hg1, hg2, hg3] at hL3
        have HCG := hid hcg
        clear hF3 hMa hNa hBa hLa hVa hg1 hg2 hg3 hcg hrl L2 N2 M2 B2
        obtain ⟨m0, m1, m2, m3, m4, m5⟩ := M3
        obtain ⟨l0, l1, l2, l3, l4, l5, l6, l7, l8⟩ := hL3.cells
        go_wp2_with fail
        refine (lineSolid W D H mp mn mc mf sp sn sc a1 b1 g1 a2 b2 g2 a3 b3 g3 U3 (HM.out.keep B3')).mono ?_; rintro e U4 ⟨rfl, q4⟩
        have M4 := (MapAt.mk m0 m1 m2 m3 m4 m5).keep q4
        have L4 := hL3.keep q4
        have N4 := N3.keep q4
        have B4 := B3'.trans (q4.mono B3'.size)
        clear q4 N3 B3' hL3 m0 m1 m2 m3 m4 m5 l0 l1 l2 l3 l4 l5 l6 l7 l8
        cases hsol : (mpOf W D H mn mf).solid g1 g2 g3 with
        | true =>
          have hF : s = false := by
            cases s with
            | false => rfl
            | true =>
              obtain ⟨hx, hy, hz⟩ := HX.out
              have hC := HCD.out
              rw [hx, hy, hz] at hC
              exact absurd (HS.out.1 rfl) (HINV.out.blind HK.out hC HFR.out (by rw [HCG.out]; exact Mp.solid_t.1 hsol))
          subst hF
          clear hsol
          go_wp2
          go_ret
          exact ⟨rfl, hmb ▸ B4⟩
        | false =>
          have hnew : Inv (mpOf W D H mn mf) (sel a1 a2 a3) (sel b1 b2 b3) (sel g1 g2 g3) := by
            obtain ⟨hx, hy, hz⟩ := HX.out
            have hC := HCD.out
            rw [hx, hy, hz] at hC
            rw [← HCG.out]
            exact HINV.out.next HK.out hC HFR.out (by rw [HCG.out]; exact Mp.solid_f.1 hsol)
          have hless : ahead (sel b1 b2 b3) (sel g1 g2 g3) < ahead (sel b1 b2 b3) (sel c1 c2 c3) := by
            rw [← HCG.out]; exact HINV.out.nearer hk3 HK.out
          have HNEW := hid hnew
          have HLESS := hid hless
          obtain ⟨o1, o2, o3⟩ := HAX.out _ _ _ hnew.rg
          have hnx := fun V => lineNext0 a1 b1 g1 a2 b2 g2 a3 b3 g3 _ _ _ rfl rfl rfl (all_sel (p := AxOk) o1 o2 o3) HNEW.out.rg V
          clear hsol hnew hless
          go_wp2
          rw [rounds_succ]
          obtain ⟨n0, n1, n2⟩ := N4.cells
          have L5 := L4.keep ((Below.refl _ _).alloc (Nat.le_refl _) (.cells #[.int .i64 x, .int .i64 y, .int .i64 z] 49))
          have M5 := M4.alloc (.cells #[.int .i64 x, .int .i64 y, .int .i64 z] 49)
          have B5 := B4.alloc B4.size (.cells #[.int .i64 x, .int .i64 y, .int .i64 z] 49)
          have N5 := B3.new U4 49 x y z
          have hul : U4.heap.size ≠ lb := fun e => by have := L4.lt; omega
          have hmu : mb ≠ U4.heap.size := fun e => by have := L4.lt; omega
          have hwu : w.heap.size ≤ U4.heap.size := B4.size
          obtain ⟨l0, l1, l2, l3, l4, l5, l6, l7, l8⟩ := L5.cells
          clear L4 M4 B4 N4
          go_wp2_with fail
          refine (hnx _).mono ?_; rintro e U6 ⟨⟨b', x', y', z', hN', rfl⟩, q6⟩
          have M6 := M5.keep q6
          have L6 := L5.keep q6
          have N6 := N5.keep q6
          have B6 := B5.trans (q6.mono B5.size)
          have HN' := hid hN'
          clear q6 M5 L5 N5 B5 hnx hN' l0 l1 l2 l3 l4 l5 l6 l7 l8 n0 n1 n2
          obtain ⟨n0, n1, n2⟩ := N6.cells
          obtain ⟨z0, z1, z2⟩ := N6.thaw
          have N7 := N6.set x' y' z'
          have hf3 : Fr (fun k => k = U4.heap.size) U6 (((U6.setCell ⟨U4.heap.size, 0, none⟩ (.int .i64 x')).setCell ⟨U4.heap.size, 1, none⟩ (.int .i64 y')).setCell ⟨U4.heap.size, 2, none⟩ (.int .i64 z')) := (((Fr.refl (fun k => k = U4.heap.size) U6).setCell (p := ⟨U4.heap.size, 0, none⟩) rfl _).setCell (p := ⟨U4.heap.size, 1, none⟩) rfl _).setCell (p := ⟨U4.heap.size, 2, none⟩) rfl _
          have L7 := L6.fr hf3 (fun e => hul e.symm)
          have M7 := M6.fr hf3 hmu
          have B7 := below_set3 B6 hwu (.int .i64 x') (.int .i64 y') (.int .i64 z')
          go_wp2
          refine ⟨⟨g1, g2, g3, b', x', y', z', U4.heap.size, rfl, rfl, hul, HNEW, HN', L7, N7, M7, B7⟩, ?_⟩
          obtain ⟨l0, l1, l2, l3, l4, l5, l6, l7, l8⟩ := L7.cells
          rw [hmeas.out, rd_eq l2, rd_eq l5, rd_eq l8]
          exact HLESS.out
set_option maxHeartbeats 1000000 in
theorem gridSight (W D H : Int) (mp : Option Addr) (mn mc : Nat) (mf : Nat → Bool) (sp : Option Addr) (sn sc : Nat) (a1 a2 a3 : Int) (b1 b2 b3 : Int) (ha1 : I64 a1) (ha2 : I64 a2) (ha3 : I64 a3) (hb1 : I64 b1) (hb2 : I64 b2) (hb3 : I64 b3) (w : World) (hm : Arg w mp mn mc fun i => .bool (mf i)) (s : Bool) (hs : s = true ↔ (mpOf W D H mn mf).Sees ⟨a1, a2, a3⟩ ⟨b1, b2, b3⟩) :
    Calls Try.prog 16 #[.agg #[.int .i64 W, .int .i64 D, .int .i64 H, .slice mp mn mc, .slice sp sn sc], .agg #[.int .i64 a1, .int .i64 a2, .int .i64 a3], .agg #[.int .i64 b1, .int .i64 b2, .int .i64 b3]] w fun e w' => e = .returned (.bool s) ∧ Below w.heap.size w w' := by
  by_cases ha : (mpOf W D H mn mf).Free (a1 / 65536) (a2 / 65536) (a3 / 65536)
  · by_cases hb : (mpOf W D H mn mf).Free (b1 / 65536) (b2 / 65536) (b3 / 65536)
    · exact gridSightIn W D H mp mn mc mf sp sn sc a1 a2 a3 b1 b2 b3 ha1 ha2 ha3 hb1 hb2 hb3 w hm s hs ha hb
    · have hF : s = false := by
        cases s with
        | false => rfl
        | true => exact absurd (hs.1 rfl) (blind_b hb)
      subst hF
      have hfa := Mp.solid_f.2 ha
      have hfb := Mp.solid_t.2 hb
      have hsa := fun V (hV : Below w.heap.size w V) => gridSolidAt W D H mp mn mc mf sp sn sc a1 a2 a3 ha1 ha2 ha3 V (hm.keep hV)
      have hsb := fun V (hV : Below w.heap.size w V) => gridSolidAt W D H mp mn mc mf sp sn sc b1 b2 b3 hb1 hb2 hb3 V (hm.keep hV)
      rw [hfa] at hsa
      rw [hfb] at hsb
      have HSA := hid hsa
      have HSB := hid hsb
      clear hs ha hb hfa hfb hsa hsb hm
      go_enter Try.func16, Try.ntmps16
      have B0 : Below w.heap.size w (((w.alloc (.cells #[.int .i64 W, .int .i64 D, .int .i64 H, .slice mp mn mc, .slice sp sn sc] 25)).alloc (.cells #[.int .i64 a1, .int .i64 a2, .int .i64 a3] 27)).alloc (.cells #[.int .i64 b1, .int .i64 b2, .int .i64 b3] 27)) := (((Below.refl _ _).alloc (Nat.le_refl _) _).alloc (by simp) _).alloc (by simp; omega) _
      have M0 := ((MapAt.new w W D H (.slice mp mn mc) (.slice sp sn sc) 25).alloc (.cells #[.int .i64 a1, .int .i64 a2, .int .i64 a3] 27)).alloc (.cells #[.int .i64 b1, .int .i64 b2, .int .i64 b3] 27)
      have E0 : B3 (((w.alloc (.cells #[.int .i64 W, .int .i64 D, .int .i64 H, .slice mp mn mc, .slice sp sn sc] 25)).alloc (.cells #[.int .i64 a1, .int .i64 a2, .int .i64 a3] 27)).alloc (.cells #[.int .i64 b1, .int .i64 b2, .int .i64 b3] 27)) (w.heap.size + 1 + 1) 27 b1 b2 b3 := B3.new' _ _ _ _ _ (by simp)
      go_wp2_with fail
      refine (HSA.out _ B0).mono ?_; rintro e V1 ⟨rfl, q1⟩
      have B1 := B0.trans (q1.mono B0.size)
      obtain ⟨m0, m1, m2, m3, m4, m5⟩ := M0.keep q1
      obtain ⟨y0, y1, y2⟩ := (E0.keep q1).cells
      clear q1 B0 M0 E0
      go_wp2_with fail
      refine (HSB.out _ B1).mono ?_; rintro e V2 ⟨rfl, q2⟩
      go_wp2
      go_ret
      exact ⟨rfl, B1.trans (q2.mono B1.size)⟩
  · have hF : s = false := by
      cases s with
      | false => rfl
      | true => exact absurd (hs.1 rfl) (blind_a ha)
    subst hF
    have hfa := Mp.solid_t.2 ha
    have hsa := fun V (hV : Below w.heap.size w V) => gridSolidAt W D H mp mn mc mf sp sn sc a1 a2 a3 ha1 ha2 ha3 V (hm.keep hV)
    rw [hfa] at hsa
    have HSA := hid hsa
    clear hs ha hfa hsa hm
    go_enter Try.func16, Try.ntmps16
    have B0 : Below w.heap.size w (((w.alloc (.cells #[.int .i64 W, .int .i64 D, .int .i64 H, .slice mp mn mc, .slice sp sn sc] 25)).alloc (.cells #[.int .i64 a1, .int .i64 a2, .int .i64 a3] 27)).alloc (.cells #[.int .i64 b1, .int .i64 b2, .int .i64 b3] 27)) := (((Below.refl _ _).alloc (Nat.le_refl _) _).alloc (by simp) _).alloc (by simp; omega) _
    go_wp2_with fail
    refine (HSA.out _ B0).mono ?_; rintro e V1 ⟨rfl, q1⟩
    go_wp2
    go_ret
    exact ⟨rfl, B0.trans (q1.mono B0.size)⟩
end Go.Proofs.Ytpghdfleffgilaa
