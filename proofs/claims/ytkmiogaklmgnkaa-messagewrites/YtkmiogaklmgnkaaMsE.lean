/- Layer 5 (message): bytes through a way. -/
import Derived.Test.YtkmiogaklmgnkaaMsB
import Derived.Lib.AppendZeros
namespace Go.Proofs.Ytkmiogaklmgnkaa
open Go.RowKit Go.Shelf
set_option linter.unusedVariables false
set_option linter.unusedSimpArgs false
attribute [local go_sem ↓] Go.wp_at_zero Go.wp_at_succ

/-- Bytes appended to a row of one's own: what turns. -/
theorem append_rowF {w : World} {B : Nat} {v : Value} {ys zs : List Nat} {p : Option Addr} {cap : Nat} (ty : TypeId) (h : Row w B v ys) (ha : Arg w p zs.length cap fun i => .int .u8 ((zs.getD i 0 : Nat) : Int)) (hB : B ≤ w.heap.size) (hl : ys.length + zs.length ≤ 100000) (h0 : 0 < zs.length) :
    ∃ v' w', (Builtin.append_ #[25, 25] ty #[v, .slice p zs.length cap]).run Try.prog w = .ok v' w' ∧ Row w' B v' (ys ++ zs) ∧ Fr (fun k => v.ownBlock = some k) w w' ∧ ∀ k, v'.ownBlock = some k → v.ownBlock = some k ∨ w.heap.size ≤ k := by
  obtain ⟨b, o, rfl, hb, hc⟩ := ha.at (i := 0) (by omega)
  obtain ⟨i0, hi, hz0, hz1, hz2⟩ := info_parts info_u8
  have hnews : ∀ j u, (u8s zs)[j]? = some u → w.cell? ((⟨b, o, none⟩ : Addr).add j) = some u := by
    intro j u hu
    obtain ⟨hj, rfl⟩ := List.getElem?_eq_some_iff.1 hu
    rw [u8s_get, Addr.add_lit]
    exact hc j (by rwa [u8s_length] at hj)
  obtain ⟨g, cap', w', hr, ho, hg, hgg, _⟩ := run_append_lies (P := Try.prog) w 25 ty B 5 i0 (.int .u8 0) 1 1 Try.underlying25 hi hz0 hz1 hz2 rfl (by decide) v ys.length (u8s ys) h.own ⟨b, o, none⟩ zs.length cap (u8s zs) (by rw [u8s_length]; omega) hnews (u8s_one zs) (by omega) (by unfold maxLen; omega) (by omega) (by omega) w.heap.size rfl
  rw [← u8s_append, ← List.length_append] at ho
  refine ⟨_, w', hr, ⟨?_⟩, Fr.of_grown hg (fun k e => e), own_new hgg (Nat.le_refl _)⟩
  rw [List.length_append] at ho ⊢; exact ho
theorem Row.same {w w' : World} {B : Nat} {v : Value} {ys : List Nat} (h : Row w B v ys) (hk : ∀ k, v.ownBlock = some k → w'.heap[k]? = w.heap[k]?) : Row w' B v ys := by
  refine ⟨h.own.1, ?_⟩
  rcases h.own.2 with hn | ⟨g, cap, cur, hv, hb, hg, r⟩
  · exact .inl hn
  · exact .inr ⟨g, cap, cur, hv, hb, (hk g (by rw [hv]; rfl)).trans hg, r⟩
theorem Row.nil (w : World) (B : Nat) : Row w B (.slice none 0 0) [] := ⟨World.ownsRow_nil _ _ _ _⟩
theorem Row.ge {w : World} {B : Nat} {v : Value} {ys : List Nat} (h : Row w B v ys) {k : Nat} (hk : v.ownBlock = some k) : B ≤ k ∧ k < w.heap.size := h.own.lt k hk
theorem Arg.same {w w' : World} {p : Option Addr} {n cap : Nat} {f : Nat → Value} (h : Arg w p n cap f) (hs : w.heap.size ≤ w'.heap.size) (hk : n ≠ 0 → ∀ k o, p = some ⟨k, o, none⟩ → w'.heap[k]? = w.heap[k]?) : Arg w' p n cap f := by
  refine ⟨h.le, h.most, ?_⟩
  rcases h.cells with h0 | ⟨b, o, rfl, hlt, hc⟩
  · exact .inl h0
  · by_cases h0 : n = 0
    · exact .inl h0
    · exact .inr ⟨b, o, rfl, Nat.lt_of_lt_of_le hlt hs, fun i hi => (World.cell?_of_block (a := ⟨b, o + i, none⟩) (hk h0 b o rfl)).trans (hc i hi)⟩
theorem one_byte (w : World) (y : Nat) : Arg (w.alloc (.cells #[.int .u8 (y : Int)] 5)) (some ⟨w.heap.size, 0, none⟩) ([y] : List Nat).length 1 fun i => .int .u8 ((([y] : List Nat).getD i 0 : Nat) : Int) :=
  ⟨Nat.le_refl _, by unfold maxLen; omega, .inr ⟨_, 0, rfl, by simp, fun i hi => by
    obtain rfl : i = 0 := by simp at hi; omega
    rw [cell_of_row _ _ _ _ _ _ (heap_alloc_new w _)]; rfl⟩⟩
/-- What a round of load keeps. -/
structure LdI {σ : Type} (W : Way σ) (S : Nat → Prop) (w : World) (p : Option Addr) (bs : List Nat) (N : Nat) (s0 : σ) (j : Nat) (v : Value) (acc : List Nat) (s : σ) (wr : World) : Prop where
  row : Row wr w.heap.size v acc
  len : acc.length = j
  le : j ≤ N
  g : Gn W S w (fun k => v.ownBlock = some k ∨ (bs.length ≠ 0 ∧ ∃ o, p = some ⟨k, o, none⟩)) s wr
  ok : (loadGo (bs.drop j) (N - j) acc).All W.ok W.step s
  run : (loadGo (bs.drop j) (N - j) acc).run W.step s = (loadGo bs N []).run W.step s0
theorem headD_drop (bs : List Nat) (j : Nat) : (bs.drop j).headD 0 = bs.getD j 0 := by
  induction bs generalizing j with
  | nil => simp
  | cons b bs ih => cases j with
    | zero => rfl
    | succ j => simp
/-- One byte more. -/
theorem LdI.step {σ : Type} {W : Way σ} {S : Nat → Prop} {w : World} {p : Option Addr} {bs : List Nat} {N : Nat} {s0 : σ} {j : Nat} {v v' : Value} {acc : List Nat} {s : σ} {wr w1 w2 : World} (h : LdI W S w p bs N s0 j v acc s wr) (hj : j < N) (hb : ∀ y ∈ bs, y < 256)
    (hrow : Row w2 w.heap.size v' (acc ++ [(W.step false s (bs.getD j 0 : Nat) (uns 8)).1.toNat])) (g1 : Gn W S w (fun k => v.ownBlock = some k ∨ (bs.length ≠ 0 ∧ ∃ o, p = some ⟨k, o, none⟩)) (W.step false s (bs.getD j 0 : Nat) (uns 8)).2 w1) (hr1 : Row w1 w.heap.size v acc) (hlt : ∀ k o, bs.length ≠ 0 → p = some ⟨k, o, none⟩ → k < w.heap.size)
    (hf : Fr (fun k => v.ownBlock = some k) w1 w2) (hv : ∀ k, v'.ownBlock = some k → v.ownBlock = some k ∨ w1.heap.size ≤ k) : LdI W S w p bs N s0 (j + 1) v' (acc ++ [(W.step false s (bs.getD j 0 : Nat) (uns 8)).1.toNat]) (W.step false s (bs.getD j 0 : Nat) (uns 8)).2 w2 := by
  have hN : N - j = (N - (j + 1)) + 1 := by omega
  have hok := h.ok
  have hrun := h.run
  rw [hN, loadGo, headD_drop, List.tail_drop] at hok hrun
  refine ⟨hrow, by rw [List.length_append, h.len]; rfl, hj, ?_, hok.2, hrun⟩
  obtain ⟨S', a1, a2, a3, a4⟩ := g1
  have hSlt := W.lt a1
  refine ⟨S', W.keep a1 hf (fun k hk e => (a4 k (.inl e)).1 hk), a2.trans hf (fun k hk e => by have := (hr1.ge e).1; omega), a3, fun k hk => ?_⟩
  rcases hk with hk | hk
  · refine ⟨fun e => ?_, (hrow.ge hk).2⟩
    rcases hv k hk with e2 | e2
    · exact (a4 k (.inl e2)).1 e
    · have := hSlt k e; omega
  · exact ⟨(a4 k (.inr hk)).1, Nat.lt_of_lt_of_le (a4 k (.inr hk)).2 hf.size⟩
set_option maxRecDepth 100000 in
set_option maxHeartbeats 2000000 in
theorem loadF {σ : Type} (W : Way σ) {s : σ} {S : Nat → Prop} (p : Option Addr) (cap : Nat) (bs : List Nat) (w : World) (h : W.At s S w) (hok : (loadP bs).All W.ok W.step s) (ha : Arg w p bs.length cap fun i => .int .u8 ((bs.getD i 0 : Nat) : Int)) (hb : ∀ y ∈ bs, y < 256) (hl : bs.length ≤ 90000 ∨ W.tight) (hd : bs.length ≠ 0 → ∀ k o, p = some ⟨k, o, none⟩ → ¬ S k) :
    Calls Try.prog 50 #[.slice p bs.length cap, W.fv false] w fun e w' => ∃ v, e = .returned v ∧ Row w' w.heap.size v ((loadP bs).run W.step s).1 ∧ ∃ S', W.At ((loadP bs).run W.step s).2 S' w' ∧ Fr S w w' ∧ Sub w S S' ∧ ∀ k, v.ownBlock = some k → ¬ S' k := by
  obtain ⟨ok1, ok2⟩ := hok
  simp only [loadP, Pg.run_ask] at *
  have hlt : ∀ k o, bs.length ≠ 0 → p = some ⟨k, o, none⟩ → k < w.heap.size := fun k o h0 hp => by
    rcases ha.cells with e | ⟨b, o', hp', hlt, _⟩
    · exact (h0 e).elim
    · rw [hp] at hp'; cases hp'; exact hlt
  have c1 := fun S1 w1 (h : W.At s S1 w1) => fieldInt W false (bs.length : Nat) (uns 10) w1 h ok1
  have hres := W.res false s (bs.length : Nat) (uns 10)
  obtain ⟨x1, hx1⟩ : ∃ q, (W.step false s (bs.length : Nat) (uns 10)).1 = q := ⟨_, rfl⟩
  obtain ⟨s1, hs1⟩ : ∃ q, (W.step false s (bs.length : Nat) (uns 10)).2 = q := ⟨_, rfl⟩
  rw [hx1] at hres
  rw [hx1, hs1] at c1 ok2 ⊢
  obtain ⟨N, hN⟩ : ∃ N : Nat, x1 = (N : Int) ∧ N ≤ 90000 := by
    have hres2 : (x1 = ((bs.length : Nat) : Int) ∧ bs.length ≤ 90000) ∨ x1 = 0 ∨ (uns 10).has x1 := by
      rcases hl with hl | hl
      · exact hres.imp (fun e => ⟨e, hl⟩) id
      · have := W.res2 hl false s (bs.length : Nat) (uns 10); rw [hx1] at this; exact .inr this
    rcases hres2 with e | e | e
    · exact ⟨bs.length, e⟩
    · exact ⟨0, e, by omega⟩
    · have e1 : 0 ≤ x1 := e.1
      have e2 : x1 ≤ 1023 := e.2
      exact ⟨x1.toNat, by omega, by omega⟩
  obtain ⟨rfl, hN⟩ := hN
  rw [Int.toNat_natCast] at ok2 ⊢
  have hle := ha.le; have hmost := ha.most
  unfold maxLen at hmost
  generalize hfv : W.fv false = fn at c1 ⊢
  have U10 := unsignedF 10 (by simp)
  have U8 := unsignedF 8 (by simp)
  have G0 : Gn W S w (fun k => bs.length ≠ 0 ∧ ∃ o, p = some ⟨k, o, none⟩) s w := ⟨S, h, Fr.refl _ _, fun _ h => .inl h, fun k hk => by obtain ⟨h0, o, hp⟩ := hk; exact ⟨hd h0 k o hp, hlt k o h0 hp⟩⟩
  have HA := hid ha; have HOK := hid ok2
  clear ha h hd hres hx1 hs1 ok1 ok2
  go_enter Try.func50, Try.ntmps50
  go_wp2_with fail
  refine (U10 _).mono ?_
  rintro e w1 ⟨rfl, b1⟩
  dsimp only
  have G1 := G0.below b1
  go_wp2_with fail
  refine (G1.call (fun S1 h => c1 S1 _ h)).mono ?_
  rintro e w2 ⟨rfl, G2, hk2, hs2⟩
  dsimp only
  have HL : LdI W S w p bs N s1 0 (.slice none 0 0) [] s1 w2 := ⟨Row.nil _ _, rfl, Nat.zero_le _, G2.mono (fun k hk => hk.elim (fun e => by cases e) id), HOK.out, rfl⟩
  have HA2 := (HA.out.keep b1).same hs2 (fun h0 k o hp => hk2 k ⟨h0, o, hp⟩)
  have HH := hid HL; have HA3 := hid HA2
  clear G0 G1 G2 b1 hk2 hs2 HL HA HA2 HOK c1
  go_wp2_with fail
  go_loopw [5, 13] (fun to i wr => ∃ (j : Nat) (v : Value) (acc : List Nat) (s' : σ), i = .int .i64 (j : Int) ∧ to = v ∧ LdI W S w p bs N s1 j v acc s' wr ∧ Arg wr p bs.length cap fun i => .int .u8 ((bs.getD i 0 : Nat) : Int)) (fun _ i _ => N - (intOf i).toNat)
  case atStart => exact ⟨0, _, [], s1, rfl, rfl, HH.out, HA3.out⟩
  case round =>
    obtain ⟨j, v, acc, s', rfl, hto, hI, hA⟩ := hrel
    obtain ⟨p5, cap5, hv5, ha5⟩ := hI.row.arg
    subst hv5
    subst hto
    have hl5 := ha5.le; have hm5 := ha5.most
    unfold maxLen at hm5
    have hacc := hI.len
    have HG := hid hI.g; have HR := hid hI.row; have HAr := hid hA
    by_cases hlt2 : j < N
    · obtain ⟨q, hq⟩ : ∃ q, bs.getD j 0 = q := ⟨_, rfl⟩
      have hq256 : q < 256 := by
        rw [← hq, List.getD_eq_getElem?_getD]
        by_cases hjl : j < bs.length
        · rw [List.getElem?_eq_getElem hjl]; exact hb _ (List.getElem_mem hjl)
        · rw [List.getElem?_eq_none (by omega)]; decide
      have hokj := hI.ok
      rw [show N - j = (N - (j + 1)) + 1 by omega, loadGo, headD_drop, hq] at hokj
      have cU := fun S1 w1 (h : W.At s' S1 w1) => fieldU8 W false (q : Int) (uns 8) w1 h hokj.1 (by omega) (by decide)
      rw [hfv] at cU
      have hst := fun v' w1 w2 => hI.step (v' := v') (w1 := w1) (w2 := w2) hlt2 hb
      have hres := W.res false s' (q : Int) (uns 8)
      simp only [hq] at hst
      obtain ⟨y', hy⟩ : ∃ y, (W.step false s' (q : Int) (uns 8)).1 = y := ⟨_, rfl⟩
      obtain ⟨s2, hs2⟩ : ∃ y, (W.step false s' (q : Int) (uns 8)).2 = y := ⟨_, rfl⟩
      simp only [hy, hs2] at hst cU hres
      obtain ⟨y, rfl, hy256⟩ : ∃ y : Nat, y' = (y : Int) ∧ y < 256 := by
        rcases hres with e | e | e
        · exact ⟨q, e, hq256⟩
        · exact ⟨0, e, by omega⟩
        · have e1 : 0 ≤ y' := e.1
          have e2 : y' ≤ 255 := e.2
          exact ⟨y'.toNat, by omega, by omega⟩
      simp only [Int.toNat_natCast] at hst
      clear hy hs2 hokj hI hres
      by_cases hjl : j < bs.length
      · obtain ⟨b, o, hp, hbl, hc⟩ := hA.at hjl
        have hcj := hc j hjl
        rw [hq] at hcj
        cases hp
        clear hA hc
        go_wp2_with fail
        refine (U8 _).mono ?_
        rintro e w3 ⟨rfl, b3⟩
        dsimp only
        have G3 := HG.out.below b3
        have R3 := HR.out.below b3
        have A3 := HAr.out.keep b3
        go_wp2_with fail
        refine (G3.call (fun S1 h => cU S1 _ h)).mono ?_
        rintro e w4 ⟨rfl, G4, hk4, hs4⟩
        dsimp only
        have R4 := R3.same (fun k hk => hk4 k (.inl hk))
        have A4 := A3.same hs4 (fun h0 k o hp => hk4 k (.inr ⟨h0, o, hp⟩))
        have G5 := G4.below ((Below.refl _ w4).alloc (Nat.le_refl _) (.cells #[.int .u8 (y : Int)] 5))
        have R5 := R4.below ((Below.refl _ w4).alloc (Nat.le_refl _) (.cells #[.int .u8 (y : Int)] 5))
        have A5 := A4.keep ((Below.refl _ w4).alloc (Nat.le_refl _) (.cells #[.int .u8 (y : Int)] 5))
        obtain ⟨v6, w6, r6, row6, f6, own6⟩ := append_rowF 25 R5 (one_byte w4 y) G5.size (by simp; omega) (by simp)
        simp only [List.length_cons, List.length_nil, Nat.zero_add] at r6
        have A6 := A5.same f6.size (fun h0 k o hp => f6.block k (by have := hlt k o h0 hp; have := G5.size; omega) (fun e => by have := (R5.ge e).1; have := hlt k o h0 hp; omega))
        have HN := hid (hst v6 _ w6 row6 G5 R5 hlt f6 own6)
        have HA6 := hid A6
        clear G3 R3 A3 G4 R4 A4 G5 R5 A5 A6 hst row6 f6 own6 hk4 hs4 cU b3 HG HR HAr
        go_wp2_with (at_builtin; refine Lib.wpList_append_run _ rfl _ _ _ _ rfl _ _ rfl rfl _ _ r6 ?_; clear r6)
        go_roundw
        case rel => exact ⟨j + 1, _, _, _, by go_num, rfl, HN.out, HA6.out⟩
        case measure => simp [intOf]; omega
      · obtain rfl : q = 0 := by
          rw [← hq, List.getD_eq_getElem?_getD, List.getElem?_eq_none (by omega)]; rfl
        clear hA
        go_wp2_with fail
        refine (U8 _).mono ?_
        rintro e w3 ⟨rfl, b3⟩
        dsimp only
        have G3 := HG.out.below b3
        have R3 := HR.out.below b3
        have A3 := HAr.out.keep b3
        go_wp2_with fail
        refine (G3.call (fun S1 h => cU S1 _ h)).mono ?_
        rintro e w4 ⟨rfl, G4, hk4, hs4⟩
        dsimp only
        have R4 := R3.same (fun k hk => hk4 k (.inl hk))
        have A4 := A3.same hs4 (fun h0 k o hp => hk4 k (.inr ⟨h0, o, hp⟩))
        have G5 := G4.below ((Below.refl _ w4).alloc (Nat.le_refl _) (.cells #[.int .u8 (y : Int)] 5))
        have R5 := R4.below ((Below.refl _ w4).alloc (Nat.le_refl _) (.cells #[.int .u8 (y : Int)] 5))
        have A5 := A4.keep ((Below.refl _ w4).alloc (Nat.le_refl _) (.cells #[.int .u8 (y : Int)] 5))
        obtain ⟨v6, w6, r6, row6, f6, own6⟩ := append_rowF 25 R5 (one_byte w4 y) G5.size (by simp; omega) (by simp)
        simp only [List.length_cons, List.length_nil, Nat.zero_add] at r6
        have A6 := A5.same f6.size (fun h0 k o hp => f6.block k (by have := hlt k o h0 hp; have := G5.size; omega) (fun e => by have := (R5.ge e).1; have := hlt k o h0 hp; omega))
        have HN := hid (hst v6 _ w6 row6 G5 R5 hlt f6 own6)
        have HA6 := hid A6
        clear G3 R3 A3 G4 R4 A4 G5 R5 A5 A6 hst row6 f6 own6 hk4 hs4 cU b3 HG HR HAr
        go_wp2_with (at_builtin; refine Lib.wpList_append_run _ rfl _ _ _ _ rfl _ _ rfl rfl _ _ r6 ?_; clear r6)
        go_roundw
        case rel => exact ⟨j + 1, _, _, _, by go_num, rfl, HN.out, HA6.out⟩
        case measure => simp [intOf]; omega
    · have hNj : N - j = 0 := by omega
      have hjN : ¬ (j : Int) < (N : Int) := by omega
      have hrun := hI.run
      rw [hNj, loadGo, Pg.run_ret] at hrun
      have HRUN := hid hrun
      clear hrun hI hA hacc
      go_wp2_with fail
      go_ret
      rw [← HRUN.out]
      obtain ⟨S', g1, g2, g3, g4⟩ := HG.out
      exact ⟨_, rfl, HR.out, S', g1, g2, g3, fun k hk => (g4 k (.inl hk)).1⟩
end Go.Proofs.Ytkmiogaklmgnkaa
