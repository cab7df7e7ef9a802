/- Layer 3 (bits): the walk of the law BitsWrites. -/
import Derived.Test.YtnaeloapajhpfaaBtU
import Derived.Test.YtnaeloapajhpfaaBtW
namespace Go.Proofs.Ytnaeloapajhpfaa
open Go.RowKit Go.Shelf
set_option linter.unusedVariables false

theorem Row.at {w : World} {B : Nat} {v : Value} {ys : List Nat} (h : Row w B v ys) {j : Nat} (hj : j < ys.length) :
    ∃ g cap, v = .slice (some ⟨g, 0, none⟩) ys.length cap ∧ ys.length ≤ cap ∧ cap ≤ maxLen ∧ B ≤ g ∧ (∀ i, i < ys.length → w.cell? ⟨g, i, none⟩ = some (.int .u8 ((ys.getD i 0 : Nat) : Int))) ∧ (∀ i, w.frozen? ⟨g, i, none⟩ = false) := by
  rcases h.own.2 with ⟨rfl, hl⟩ | ⟨g, cap, cur, rfl, hb, hg, h1, h2, h3, h4⟩
  · omega
  · refine ⟨g, cap, rfl, h1, h2, hb, fun i hi => ?_, fun i => ?_⟩
    · rw [cell_of_row w g i cur 5 (0, 0) hg]
      have hi' : i < ys.length * 1 := by omega
      have : (u8s ys)[i]? = cur.toList[i]? := by rw [← h4, List.getElem?_take, if_pos hi']
      rw [List.getElem?_eq_getElem (by rw [u8s_length]; exact hi), u8s_get] at this
      simpa using this.symm
    · simp [World.frozen?, hg]
theorem Row.set {w : World} {B g cap n : Nat} {ys : List Nat} (h : Row w B (.slice (some ⟨g, 0, none⟩) n cap) ys) (j y : Nat) : Row (w.setCell ⟨g, j, none⟩ (.int .u8 (y : Int))) B (.slice (some ⟨g, 0, none⟩) n cap) (ys.set j y) := by
  refine ⟨?_⟩
  rw [u8s_set, List.length_set]
  refine ⟨by rw [List.length_set]; exact h.own.1, ?_⟩
  rcases h.own.2 with ⟨hn, _⟩ | ⟨g', cap', cur, hv, hb, hg, h2, h3, h4, h5⟩
  · cases hn
  · cases hv
    refine .inr ⟨g, cap, cur.setIfInBounds j (.int .u8 (y : Int)), rfl, hb, heap_set_same hg _, h2, h3, by simpa using h4, ?_⟩
    rw [Array.toList_setIfInBounds, List.take_set, h5]
set_option maxRecDepth 100000 in
set_option maxHeartbeats 4000000 in
theorem bitsWrites_walk (p : Option Addr) (n cap : Nat) (N B : Nat → Int) (G : Nat → Bool) (w : World) (h : ArgP w p n cap N B G) :
    Calls Try.prog 3 #[.slice p n cap] w fun e w' => e = .returned (.bool true) ∧ Below w.heap.size w w' := by
  have hle := h.le; have hmost := h.most
  unfold maxLen at hmost
  have hsh := shown w
  have H := hid h
  clear h
  have hKl := putsBits_len N B (min n 100)
  have hwr := fun W hW => writeL p n cap N B G W (H.out.keep hW)
  obtain ⟨bs, hbs⟩ : ∃ bs, putsBits N B (min n 100) = bs := ⟨_, rfl⟩
  rw [hbs] at hKl hwr
  have hbl : bs.length ≤ 6400 := by omega
  have HWR := hid hwr
  clear hwr hbs hKl H
  go_enter Try.func3, Try.ntmps3
  go_wp2_with (first
    | (go_at_call 11; refine hsh.mono ?_; rintro e w0 ⟨rfl, hB0⟩)
    | fail)
  refine (HWR.out w0 hB0).mono ?_; rintro e w1 ⟨A, rfl, S, h1, hf1, b1⟩
  have hB1 := hB0.trans (b1.mono hB0.size)
  have hF1 : From w.heap.size S := ⟨fun k hk => Nat.le_trans hB0.size (hf1.le k hk)⟩
  have hSl := h1.lt
  have hB1' := hB1
  go_wp2_with fail
  refine (bytesW S A bs w1 h1 (by omega)).mono ?_; rintro e w2 ⟨⟨v2, ys, f, rfl, hr2, hp2⟩, b2⟩
  have hB2 := hB1.trans (b2.mono hB1.size)
  have h2 := h1.below b2
  have hrb := refBytes bs w2 hbl
  have hyl : ys.length ≤ 1000 := by have g1 := hp2.len; have g2 := hp2.few; omega
  have HP := hid hp2
  obtain ⟨p2, cap2, rfl, ha2⟩ := hr2.arg
  have hc2 := ha2.le; have hm2 := ha2.most
  unfold maxLen at hm2
  have HR2 := hid hr2; have H2 := hid h2
  clear hsh HWR hp2 h1 h2 hf1 b1 hr2 ha2 hB1 hB0
  go_wp2_with fail
  refine hrb.mono ?_; rintro e w3 ⟨⟨zs, rfl, g, hp3⟩, b3⟩
  obtain rfl := hp3.uniq HP.out
  have hB3 := hB2.trans (b3.mono hB2.size)
  have hr3 := HR2.out.below b3
  have cv3 := conv_row hr3
  have H3 := hid (H2.out.below b3)
  have HR3 := hid hr3
  have hsz3 : w1.heap.size ≤ w3.heap.size := Nat.le_trans b2.size b3.size
  clear hrb hp3 HR2 H2 b3 hB2 hr3 b2
  go_wp2_with fail
  go_loopw [8] (fun i wr => ∃ (k : Nat) (us : List Nat), i = .int .i64 k ∧ k ≤ zs.length ∧ us.length = zs.length ∧ Row wr w1.heap.size (.slice p2 zs.length cap2) us ∧ Fr (fun k => w1.heap.size ≤ k) w3 wr) (fun i _ => zs.length - (intOf i).toNat)
  case atStart => exact ⟨0, zs, rfl, Nat.zero_le _, rfl, HR3.out, Fr.refl _ _⟩
  case round =>
    obtain ⟨k, us, rfl, hk, hul, hr4, hf4⟩ := hrel
    clear HR3 cv3
    by_cases hlt : k < zs.length
    · have i1 : (k : Int) < (zs.length : Int) := by omega
      obtain ⟨g4, cap4, hv4, _, _, hg4, hcs, hfs⟩ := hr4.at (j := k) (by omega)
      rw [hul] at hv4
      cases hv4
      have c1 := hcs k (by omega)
      have f1 := hfs k
      obtain ⟨y, hye⟩ : ∃ y, us.getD k 0 = y := ⟨_, rfl⟩
      rw [hye] at c1
      obtain ⟨y2, hy2⟩ : ∃ y2 : Nat, IntKind.u8.wrap ((y : Int) + 1) = (y2 : Int) := ⟨(y + 1) % 256, by
        unfold IntKind.wrap
        simp only [IntKind.signed, Bool.false_and, IntKind.bits]
        rw [if_neg (by simp)]
        omega⟩
      have hr5 := hr4.set k y2
      have hf5 : Fr (fun k => w1.heap.size ≤ k) w3 (wr.setCell ⟨g4, k, none⟩ (.int .u8 (y2 : Int))) := hf4.setCell (p := ⟨g4, k, none⟩) hg4 _
      have hul5 : (us.set k y2).length = zs.length := by rw [List.length_set]; exact hul
      have HR5 := hid hr5; have HF5 := hid hf5; have HU5 := hid hul5
      clear hcs hfs hr4 hf4 hr5 hf5 hul5 hye
      go_wp2_with fail
      go_roundw
      case rel => exact ⟨k + 1, us.set k y2, by go_num, by omega, HU5.out, HR5.out, HF5.out⟩
      case measure => simp [intOf]; omega
    · obtain rfl : k = zs.length := by omega
      have i1 : ¬ (zs.length : Int) < (zs.length : Int) := by omega
      have h5 := H3.out.keep hf4 (fun k hk e => by have := hSl k hk; omega)
      have hB5 : Below w.heap.size w wr := hB3.trans (hf4.below hB3.size (fun k hk => by have := hB1'.size; omega))
      have hby := bytesW S A bs wr h5 (by omega)
      clear hr4 hf4 h5
      go_wp2_with fail
      refine hby.mono ?_; rintro e w6 ⟨⟨v6, us6, f6, rfl, hr6, hp6⟩, b6⟩
      obtain rfl := hp6.uniq HP.out
      obtain ⟨p6, cap6, rfl, _⟩ := hr6.arg
      have cv6 := conv_row hr6
      have hB6 := hB5.trans (b6.mono hB5.size)
      clear hp6 hby
      go_wp2_with fail
      go_ret
      exact ⟨rfl, hB6⟩
end Go.Proofs.Ytnaeloapajhpfaa
