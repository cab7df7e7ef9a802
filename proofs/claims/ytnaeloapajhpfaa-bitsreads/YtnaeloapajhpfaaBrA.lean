/- Layer 3 (bits): the walk of the law BitsReads. -/
import Derived.Test.YtnaeloapajhpfaaBrB
namespace Go.Proofs.Ytnaeloapajhpfaa
open Go.RowKit Go.Shelf
set_option linter.unusedVariables false

theorem txt_take (l : List Bool) (c : Nat) : (txt l).extract 0 c = txt (l.take c) := by rw [txt_extract]; simp
theorem txt_drop (l : List Bool) (c : Nat) : (txt l).extract c (txt l).size = txt (l.drop c) := by
  rw [txt_extract, txt_size, List.take_of_length_le (by rw [List.length_drop]; omega)]
set_option maxRecDepth 100000 in
set_option maxHeartbeats 4000000 in
theorem bitsReads_walk (p : Option Addr) (n cap : Nat) (z : Nat → Int) (p2 : Option Addr) (n2 cap2 : Nat) (N B : Nat → Int) (G : Nat → Bool) (w : World) (h : Arg w p n cap fun i => .int .u8 (z i)) (hz : ∀ i, (Lit.int .u8 (z i)).wf = true) (h2 : ArgP w p2 n2 cap2 N B G) :
    Calls Try.prog 4 #[.slice p n cap, .slice p2 n2 cap2] w fun e w' => e = .returned (.bool true) ∧ Below w.heap.size w w' := by
  have hle := h.le; have hmost := h.most; have hmost2 := h2.most; have hle2 := h2.le
  obtain ⟨ys, hyl, hy, ha⟩ := h.bytes hz (k := min n 200) (by omega)
  unfold maxLen at hmost hmost2
  have hsh := shown w
  have H2 := hid h2; have HA := hid ha
  have hl200 : ys.length ≤ 200 := by omega
  clear h hz h2 ha
  have happ := fun W (hb : Below w.heap.size w W) => append_any W p cap ys 27 (HA.out.keep hb) (by omega)
  have HAP := hid happ
  clear happ
  obtain ⟨M, hM⟩ : ∃ M, ys.length = M := ⟨_, rfl⟩
  have hcase : ((200 : Int) < (n : Int) ∧ M = 200) ∨ ((n : Int) ≤ 200 ∧ n = M) := by omega
  have HM := hid hM
  clear hyl hM
  rcases hcase with ⟨k1, rfl⟩ | ⟨k1, rfl⟩
  all_goals
    go_enter Try.func4, Try.ntmps4
    go_wp2_with (first
      | (go_at_call 11; refine hsh.mono ?_; rintro e w0 ⟨rfl, hB0⟩; obtain ⟨v1, w1, hr1, hrow1, hb1⟩ := HAP.out w0 hB0; rw [HM.out] at hr1; have cv1 := conv_row hrow1; obtain ⟨p1, cap1, rfl, ha1⟩ := hrow1.arg)
      | (at_builtin; refine Lib.wpList_append_run _ rfl _ _ _ _ rfl _ _ rfl rfl _ _ hr1 ?_))
    have hB1 := hB0.trans (hb1.mono hB0.size)
    have hof := refOf ys w1 hy hl200
    have hc1 := ha1.le; have hm1 := ha1.most
    unfold maxLen at hm1
    refine hof.mono ?_; rintro e w2 ⟨rfl, b2⟩
    have hB2 := hB1.trans (b2.mono hB1.size)
    have hrow2 := hrow1.below b2
    have hnr := newReader p1 cap1 ys w2 (ha1.keep b2) hy (by omega)
    have HROW2 := hid hrow2
    have hsz2 : w0.heap.size ≤ w2.heap.size := Nat.le_trans hb1.size b2.size
    have hsz0 := hB0.size
    have hgl0 : ∀ g c, Value.slice p1 ys.length cap1 = .slice (some ⟨g, 0, none⟩) ys.length c → g < w2.heap.size := fun g c e => Nat.lt_of_lt_of_le (hrow1.own.lt g (by rw [e]; rfl)).2 b2.size
    have HGL0 := hid hgl0
    clear hsh HAP hof ha1 hrow1 hrow2 cv1 hr1 b2 hB1 hb1 hB0 HA hgl0
    go_wp2_with fail
    refine hnr.mono ?_; rintro e w3 ⟨⟨r, S3, rfl, hr3, hf3⟩, b3⟩
    have hB3 := hB2.trans (b3.mono hB2.size)
    have hF3 : From w.heap.size S3 := ⟨fun k hk => Nat.le_trans hB2.size (hf3.le k hk)⟩
    have hul := unpack_length ys
    obtain ⟨rs0, hrs0⟩ : ∃ rs0, unpack ys = rs0 := ⟨_, rfl⟩
    rw [hrs0] at hr3 hul ⊢
    have hrl : rs0.length ≤ 1600 := by omega
    have HF3' := hid hf3
    have R3 := hid hr3; have HROW3 := hid (HROW2.out.below b3)
    clear hnr hr3 hf3 b3 hB2 hrs0 hul HROW2 HM
    go_wp2_with fail
    go_loopw [9] (fun i wr => ∃ (k : Nat) (us : List Nat), i = .int .i64 k ∧ k ≤ ys.length ∧ us.length = ys.length ∧ Row wr w0.heap.size (.slice p1 ys.length cap1) us ∧ Fr (fun k => w0.heap.size ≤ k ∧ k < w2.heap.size) w3 wr ) (fun i _ => ys.length - (intOf i).toNat)
    case atStart => exact ⟨0, ys, rfl, Nat.zero_le _, rfl, HROW3.out, Fr.refl _ _⟩
    case round =>
      obtain ⟨k, us, rfl, hk, hul, hr4, hf4⟩ := hrel
      clear HROW3
      by_cases hlt : k < ys.length
      · have i1 : (k : Int) < (ys.length : Int) := by omega
        obtain ⟨g4, cap4, hv4, _, _, hg4, hcs, hfs⟩ := hr4.at (j := k) (by omega)
        rw [hul] at hv4
        have hgl4 := HGL0.out g4 cap4 hv4
        cases hv4
        have c1 := hcs k (by omega)
        have f1 := hfs k
        obtain ⟨y, hye⟩ : ∃ y, us.getD k 0 = y := ⟨_, rfl⟩
        rw [hye] at c1
        have hr5 := hr4.set k 63
        have hf5 : Fr (fun k => w0.heap.size ≤ k ∧ k < w2.heap.size) w3 (wr.setCell ⟨g4, k, none⟩ (.int .u8 ((63 : Nat) : Int))) := hf4.setCell (p := ⟨g4, k, none⟩) ⟨hg4, hgl4⟩ _
        have hul5 : (us.set k 63).length = ys.length := by rw [List.length_set]; exact hul
        have HR5 := hid hr5; have HF5 := hid hf5; have HU5 := hid hul5
        clear hcs hfs hr4 hf4 hr5 hf5 hul5 hye
        go_wp2_with fail
        go_roundw
        case rel => exact ⟨k + 1, us.set k 63, by go_num, by omega, HU5.out, HR5.out, HF5.out⟩
        case measure => simp [intOf]; omega
      · obtain rfl : k = ys.length := by omega
        have i1 : ¬ (ys.length : Int) < (ys.length : Int) := by omega
        have r5 := R3.out.keep hf4 (fun k hk e => by have := HF3'.out.le k hk; omega)
        have hB5 : Below w.heap.size w wr := hB3.trans (hf4.below hB3.size (fun k hk => by omega))
        have R5 := hid r5
        clear hr4 hf4 r5 R3 HF3' hB3
        go_wp2_with fail
        go_loopw [7, 10] (fun s i wr => ∃ (k : Nat) (rs : List Bool), i = .int .i64 k ∧ k ≤ min n2 100 ∧ rs.length ≤ 1600 ∧ s = .string (txt rs) ∧ RdAt wr S3 r rs ∧ Below w.heap.size w wr) (fun _ i _ => 100 - (intOf i).toNat)
        case atStart => exact ⟨0, rs0, rfl, Nat.zero_le _, hrl, rfl, R5.out, hB5⟩
        case round =>
          obtain ⟨k, rs, rfl, hk, hrl2, rfl, r6, hB6⟩ := hrel
          clear R5 hB5
          have hre := restR S3 r rs wr r6
          have hrr := fun W => refRest rs W (by omega)
          obtain ⟨vb, hvb⟩ : ∃ vb, restB rs = vb := ⟨_, rfl⟩
          rw [hvb] at hre hrr
          clear hvb
          have hsz := txt_size rs
          by_cases hlt2 : k < min n2 100
          · have j1 : (k : Int) < (n2 : Int) := by omega
            have j2 : (k : Int) < 100 := by omega
            obtain ⟨ab, ao, hpe, _, _⟩ := H2.out.at (i := k) (by omega)
            have hcell : ∀ W, Below w.heap.size w W → W.cell? ⟨ab, ao + k * 3 + 1, none⟩ = some (.int .i64 (B k)) ∧ W.cell? ⟨ab, ao + k * 3 + 2, none⟩ = some (.bool (G k)) := fun W hW => by
              obtain ⟨b', o', hp', _, hc⟩ := (H2.out.keep hW).at (i := k) (by omega)
              rw [hpe] at hp'; cases hp'
              exact (hc k (by omega)).2
            have hct := refCount (B k)
            have hcl := cnt_le (B k)
            have hsi := fun W hW => signR S3 r rs (B k) W hW
            have hge := fun W hW => getR S3 r rs (B k) W hW
            have hta := txt_take rs (cnt (B k))
            have htd := txt_drop rs (cnt (B k))
            obtain ⟨bk, hbk⟩ : ∃ bk, B k = bk := ⟨_, rfl⟩
            obtain ⟨gk, hgk⟩ : ∃ gk, G k = gk := ⟨_, rfl⟩
            rw [hbk] at hct hcl hsi hge hta htd
            have HCE := hid hcell
            have HBK := hid hbk; have HGK := hid hgk
            have hcell' : ∀ W, Below w.heap.size w W → W.cell? ⟨ab, ao + k * 3 + 1, none⟩ = some (.int .i64 bk) ∧ W.cell? ⟨ab, ao + k * 3 + 2, none⟩ = some (.bool gk) := fun W hW => by rw [← HBK.out, ← HGK.out]; exact HCE.out W hW
            have HC := hid hcell'
            obtain ⟨c, hce⟩ : ∃ c, cnt bk = c := ⟨_, rfl⟩
            rw [hce] at hct hcl hsi hge hta htd
            cases hpe
            have hgot : (c ≤ rs.length ∧ gotV rs c = val (rs.take c) ∧ gotS rs c = sgn (rs.take c) ∧ gotB rs c = true ∧ gotR rs c = rs.drop c) ∨ (¬ c ≤ rs.length ∧ gotV rs c = 0 ∧ gotS rs c = 0 ∧ gotB rs c = false ∧ gotR rs c = []) := by
              unfold gotV gotS gotB gotR
              by_cases hc : c ≤ rs.length
              · exact .inl ⟨hc, if_pos hc, if_pos hc, decide_eq_true hc, if_pos hc⟩
              · exact .inr ⟨hc, if_neg hc, if_neg hc, decide_eq_false hc, if_neg hc⟩
            clear hcell hcell' HCE hbk hgk HBK HGK hce r6
            rcases hgot with ⟨hc, g1, g2, g3, g4⟩ | ⟨hc, g1, g2, g3, g4⟩
            · rw [g1, g3, g4] at hge
              rw [g2, g3, g4] at hsi
              have hnu := fun W => refNumber (rs.take c) W (by rw [List.length_take]; omega)
              have hsg := fun W => refSigned (rs.take c) W (by rw [List.length_take]; omega)
              obtain ⟨t, ht⟩ : ∃ t, txt rs = t := ⟨_, rfl⟩
              obtain ⟨ta, hta'⟩ : ∃ ta, txt (rs.take c) = ta := ⟨_, rfl⟩
              obtain ⟨td, htd'⟩ : ∃ td, txt (rs.drop c) = td := ⟨_, rfl⟩
              obtain ⟨V, hV⟩ : ∃ V, val (rs.take c) = V := ⟨_, rfl⟩
              obtain ⟨Z, hZ⟩ : ∃ Z, sgn (rs.take c) = Z := ⟨_, rfl⟩
              rw [ht] at hsz hta htd hrr ⊢
              rw [hta'] at hta hnu hsg
              rw [htd'] at htd
              rw [hV] at hge hnu
              rw [hZ] at hsi hsg
              have hct2 : (c : Int) ≤ (t.size : Int) := by omega
              have hct3 : c ≤ t.size := by omega
              have htl : t.size ≤ 1600 := by omega
              have hdl : (rs.drop c).length ≤ 1600 := by rw [List.length_drop]; omega
              have HDL := hid hdl; have HTD := hid htd'
              clear ht hta' htd' hV hZ g1 g2 g3 g4 hsz hc hdl
              go_wp2_with fail
              refine hre.mono ?_; rintro e w7 ⟨rfl, r7, b7⟩
              have hB7 := hB6.trans (b7.mono hB6.size)
              obtain ⟨c1, c2⟩ := HC.out w7 hB7
              have hsi' := hsi w7 r7
              have hge' := hge w7 r7
              clear hre hsi hge r7 b7 hB6
              cases gk with
              | true =>
                go_wp2_with (first
                  | (go_at_call 18; refine (hrr _).mono ?_; rintro e w8 ⟨rfl, rfl⟩)
                  | (go_at_call 19; refine (hct _).mono ?_; rintro e w8 ⟨rfl, rfl⟩)
                  | fail)
                refine hsi'.mono ?_; rintro e w9 ⟨rfl, r9, f9⟩
                have hB9 := hB7.trans (f9.below hB7.size hF3.le)
                have R9 := hid r9
                clear hsi' hge' r9 f9
                go_wp2_with (first
                  | (go_at_call 21; refine (hsg _).mono ?_; rintro e w8 ⟨rfl, rfl⟩)
                  | fail)
                go_roundw
                case rel => exact ⟨k + 1, rs.drop c, by go_num, by omega, HDL.out, by rw [HTD.out], R9.out, hB9⟩
                case measure => simp [intOf]; omega
              | false =>
                go_wp2_with (first
                  | (go_at_call 18; refine (hrr _).mono ?_; rintro e w8 ⟨rfl, rfl⟩)
                  | (go_at_call 19; refine (hct _).mono ?_; rintro e w8 ⟨rfl, rfl⟩)
                  | fail)
                refine hge'.mono ?_; rintro e w9 ⟨rfl, r9, f9⟩
                have hB9 := hB7.trans (f9.below hB7.size hF3.le)
                have R9 := hid r9
                clear hsi' hge' r9 f9
                go_wp2_with (first
                  | (go_at_call 23; refine (hnu _).mono ?_; rintro e w8 ⟨rfl, rfl⟩)
                  | fail)
                go_roundw
                case rel => exact ⟨k + 1, rs.drop c, by go_num, by omega, HDL.out, by rw [HTD.out], R9.out, hB9⟩
                case measure => simp [intOf]; omega
            · rw [g1, g3, g4] at hge
              rw [g2, g3, g4] at hsi
              have hnu := fun W => refNumber [] W (by simp)
              have hsg := fun W => refSigned [] W (by simp)
              rw [show txt [] = ⟨#[]⟩ from rfl, show val [] = 0 from rfl] at hnu
              rw [show txt [] = ⟨#[]⟩ from rfl, show sgn [] = 0 from rfl] at hsg
              obtain ⟨t, ht⟩ : ∃ t, txt rs = t := ⟨_, rfl⟩
              rw [ht] at hsz hrr ⊢
              have hct2 : ¬ (c : Int) ≤ (t.size : Int) := by omega
              have htl : t.size ≤ 1600 := by omega
              clear ht g1 g2 g3 g4 hsz hc hta htd
              go_wp2_with fail
              refine hre.mono ?_; rintro e w7 ⟨rfl, r7, b7⟩
              have hB7 := hB6.trans (b7.mono hB6.size)
              obtain ⟨c1, c2⟩ := HC.out w7 hB7
              have hsi' := hsi w7 r7
              have hge' := hge w7 r7
              clear hre hsi hge r7 b7 hB6
              cases gk with
              | true =>
                go_wp2_with (first
                  | (go_at_call 18; refine (hrr _).mono ?_; rintro e w8 ⟨rfl, rfl⟩)
                  | (go_at_call 19; refine (hct _).mono ?_; rintro e w8 ⟨rfl, rfl⟩)
                  | fail)
                refine hsi'.mono ?_; rintro e w9 ⟨rfl, r9, f9⟩
                have hB9 := hB7.trans (f9.below hB7.size hF3.le)
                have R9 := hid r9
                clear hsi' hge' r9 f9
                go_wp2_with (first
                  | (go_at_call 21; refine (hsg _).mono ?_; rintro e w8 ⟨rfl, rfl⟩)
                  | fail)
                go_roundw
                case rel => exact ⟨k + 1, [], by go_num, by omega, by simp, rfl, R9.out, hB9⟩
                case measure => simp [intOf]; omega
              | false =>
                go_wp2_with (first
                  | (go_at_call 18; refine (hrr _).mono ?_; rintro e w8 ⟨rfl, rfl⟩)
                  | (go_at_call 19; refine (hct _).mono ?_; rintro e w8 ⟨rfl, rfl⟩)
                  | fail)
                refine hge'.mono ?_; rintro e w9 ⟨rfl, r9, f9⟩
                have hB9 := hB7.trans (f9.below hB7.size hF3.le)
                have R9 := hid r9
                clear hsi' hge' r9 f9
                go_wp2_with (first
                  | (go_at_call 23; refine (hnu _).mono ?_; rintro e w8 ⟨rfl, rfl⟩)
                  | fail)
                go_roundw
                case rel => exact ⟨k + 1, [], by go_num, by omega, by simp, rfl, R9.out, hB9⟩
                case measure => simp [intOf]; omega
          · have hcase : ((k : Int) < (n2 : Int) ∧ ¬ (k : Int) < 100) ∨ ¬ (k : Int) < (n2 : Int) := by omega
            clear r6 hsz
            rcases hcase with ⟨j1, j2⟩ | j1
            all_goals
              go_wp2_with fail
              refine hre.mono ?_; rintro e w7 ⟨rfl, _, b7⟩
              have hB7 := hB6.trans (b7.mono hB6.size)
              clear hre
              go_wp2_with (first
                | (go_at_call 18; refine (hrr _).mono ?_; rintro e w8 ⟨rfl, rfl⟩)
                | fail)
              go_ret
              exact ⟨by first | rfl | simp, hB7⟩
end Go.Proofs.Ytnaeloapajhpfaa
