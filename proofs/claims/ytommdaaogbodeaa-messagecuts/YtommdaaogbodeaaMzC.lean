/- Layer 5 (message): the law MessageCuts. -/
import Derived.Test.YtommdaaogbodeaaMsZ
namespace Go.Proofs.Ytommdaaogbodeaa
open Go.RowKit Go.Shelf
set_option linter.unusedVariables false
set_option linter.unusedSimpArgs false
attribute [local go_sem ↓] Go.wp_at_zero Go.wp_at_succ

theorem encJ_ge (ms : List Msg) (j : Nat) : 5 ≤ (encJ ms j).length := by
  unfold encJ; rw [List.length_append, bitsN_length]; show 5 ≤ 5 + _; omega
set_option maxRecDepth 100000 in
set_option maxHeartbeats 4000000 in
theorem messageCuts_walk (pl : Option Addr) (capl : Nat) (ms : List Msg) (q : Nat → Option Addr × Nat) (at_ more : Int) (w : World) (h : ArgM w pl capl ms q) (hat : (Lit.int .i64 at_).wf = true) (hmo : (Lit.int .u8 more).wf = true) :
    Calls Try.prog 6 #[.slice pl ms.length capl, .int .i64 at_, .int .u8 more] w fun e w' => e = .returned (.bool true) ∧ Below w.heap.size w w' := by
  obtain ⟨mo, rfl, hmo256⟩ := u8_nat hmo
  have hsh := shownF w
  obtain ⟨K16, hK16, hmask⟩ := mask (m := 65535) (x := at_) (k := 16) (by decide) (by decide)
  go_enter Try.func6, Try.ntmps6
  go_wp2_with fail
  refine hsh.mono ?_
  rintro e u1 ⟨rfl, hb1⟩
  dsimp only
  have hF := fewF pl capl ms q u1 (h.keep hb1)
  have HB1 := hid hb1
  clear hsh hb1 h hmo hat
  go_wp2_with fail
  refine hF.mono ?_
  rintro e u2 ⟨⟨p2, c2, rfl, hA2⟩, hb2⟩
  dsimp only
  have hEn := encodeF p2 c2 (fewM ms) _ u2 hA2
  have HB2 := hid (btrans HB1.out hb2)
  generalize fewM ms = fs at *
  clear hF hb2 HB1 hA2
  go_wp2_with fail
  refine hEn.mono ?_
  rintro e u3 ⟨⟨v, ys, rfl, hrow, hp, hz⟩, hb3⟩
  dsimp only
  have HB3 := hid (btrans HB2.out hb3)
  obtain ⟨p3, c3, rfl, ha3⟩ := hrow.arg
  have hle3 := ha3.le; have hm3 := ha3.most
  unfold maxLen at hm3
  by_cases hE : encE fs = 0
  · obtain ⟨f, hp⟩ := hp hE
    have hl := hp.len; have hfew := hp.few; have hby := hp.byte
    have h5 := encJ_ge fs fs.length
    have h8 := (encE_zero hE).2.2
    have hn0 : 0 < ys.length := by omega
    have hn1 : ys.length ≤ 1024 := by omega
    have hcut := fun i (hi : i < ys.length) => dec_cut hE hp hi
    have hmr := dec_more (y := mo) hE hp
    rw [hE]
    obtain ⟨r, hr⟩ : ∃ r, K16 % ys.length = r := ⟨_, rfl⟩
    have hrl : r < ys.length := by rw [← hr]; exact Nat.mod_lt _ hn0
    have hrem : Int.tmod (K16 : Int) (ys.length : Int) = (r : Int) := by rw [← hr]; exact (Int.ofNat_tmod _ _).symm
    have htl : (ys.take r).length = r := by rw [List.length_take]; omega
    have hD := decodeF p3 c3 (ys.take r) u3 (ha3.cut r) (fun y hy => hby y (List.mem_of_mem_take hy)) (by rw [htl]; omega)
    rw [hcut r hrl, htl] at hD
    have hne : ((ys.length : Int) == 0) = false := by rw [beq_eq_false_iff_ne]; omega
    have HA3 := hid ha3
    clear hp hz hEn hb3 hcut hE hrow h5 h8 hl ha3 htl
    go_wp2_with fail
    refine hD.mono ?_
    rintro e u4 ⟨⟨v4, q4, X4, rfl, hM4⟩, hb4⟩
    dsimp only
    obtain ⟨p4, c4, rfl, _⟩ := hM4.argM
    obtain ⟨v5, w5, hr5, hrow5, hb5⟩ := append_any u4 p3 c3 ys 25 (HA3.out.keep hb4) (by omega)
    obtain ⟨p5, c5, rfl, ha5⟩ := hrow5.arg
    have hBa : Below w5.heap.size w5 (w5.alloc (.cells #[.int .u8 (mo : Int)] 5)) := (Below.refl _ _).alloc (Nat.le_refl _) _
    obtain ⟨v6, w6, hr6, hrow6, hF6, _⟩ := append_rowF 25 (hrow5.below hBa) (one_byte w5 mo) (Nat.le_trans hb5.size hBa.size) (by simp; omega) (by simp)
    simp only [List.length_cons, List.length_nil, Nat.zero_add] at hr6
    obtain ⟨p6, c6, rfl, ha6⟩ := hrow6.arg
    have hD2 := decodeF p6 c6 (ys ++ [mo]) w6 ha6 (fun y hy => by
      rcases List.mem_append.1 hy with hy | hy
      · exact hby y hy
      · simp at hy; omega) (by simp; omega)
    rw [hmr] at hD2
    simp only [List.length_append, List.length_cons, List.length_nil, Nat.zero_add] at hD2
    have hB4 := btrans HB3.out hb4
    have hB5 : Below w.heap.size w w5 := btrans hB4 hb5
    have hB6 : Below w.heap.size w w6 := (hB5.trans (hBa.mono hB5.size)).trans (hF6.below (Nat.le_trans hB5.size hBa.size) (fun k hk => Nat.le_trans hB4.size (hrow5.ge hk).1))
    have HB6 := hid hB6
    clear hD hM4 hb4 HA3 hrow5 hb5 ha5 hBa hrow6 hF6 ha6 hB4 hB5 hB6 hmr HB3 hby
    go_wp2_with (at_builtin; first
      | (refine Lib.wpList_append_run _ rfl _ _ _ _ rfl _ _ rfl rfl _ _ hr5 ?_; clear hr5)
      | (refine Lib.wpList_append_run _ rfl _ _ _ _ rfl _ _ rfl rfl _ _ hr6 ?_; clear hr6))
    refine hD2.mono ?_
    rintro e u7 ⟨⟨v7, q7, X7, rfl, hM7⟩, hb7⟩
    dsimp only
    obtain ⟨p7, c7, rfl, _⟩ := hM7.argM
    have HB7 := hid (btrans HB6.out hb7)
    clear hD2 hM7 hb7 HB6
    go_wp2_with fail
    go_ret
    exact ⟨rfl, HB7.out⟩
  · have hEb : (encE fs == 0) = false := by simp [hE]
    have hEc : (encE fs != 0) = true := by simp [hE]
    generalize encE fs = E at *
    clear hp hz hEn hb3 hrow ha3
    go_wp2_with fail
    go_ret
    exact ⟨rfl, HB3.out⟩
end Go.Proofs.Ytommdaaogbodeaa
