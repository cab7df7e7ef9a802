/- Layer 2 (ring): the contracts of Table[int]: NewTable, Len, find, Get, Put, Drop, Add. -/
import Derived.Test.YtechkkidebkadaaTbS
namespace Go.Proofs.Ytechkkidebkadaa
open Go.RowKit
set_option linter.unusedVariables false
attribute [local go_sem ↓] Go.wp_at_zero Go.wp_at_succ

theorem cmpN (a b : Int) (s : Int) (w : World) :
    Calls Try.prog 53 #[.agg #[.int .i64 a, .int .i64 s], .int .i64 b] w fun e w' => e = .returned (.int .i64 (cmpI a b)) ∧ Below w.heap.size w w' := by
  go_enter Try.func53, Try.ntmps53
  go_wp2_with (go_at_call 54; refine (compare _ _ _).mono ?_; rintro e w' ⟨rfl, rfl⟩)
  go_ret
  exact ⟨rfl, (Below.refl _ _).alloc (Nat.le_refl _) _⟩

/-- All things are texts. -/
def AllN (es : List (Nat × Value)) : Prop := ∀ k (hk : k < es.length), ∃ s : Int, es[k].2 = .int .i64 s
set_option maxRecDepth 100000 in
set_option maxHeartbeats 1000000 in
theorem searchN (g cap : Nat) (a : Option Addr) (es : List (Nat × Value)) (id : Int) (w : World) (ha : es = [] ∨ a = some ⟨g, 0, none⟩ ∧ Rows2 w g es) (hr : Rise es) (hs : AllN es) (hn : es.length ≤ 1000) (hc : es.length ≤ cap) (hcm : cap ≤ maxLen) :
    Calls Try.prog 52 #[.slice a es.length cap, .int .i64 id, .func (.func 53) #[] #[]] w fun e w' => (∃ i, Low es id i ∧ e = .returned (.tuple #[.int .i64 i, .bool (isAt es id i)])) ∧ Below w.heap.size w w' := by
  unfold maxLen at hcm
  go_enter Try.func52, Try.ntmps52
  go_wp2_with fail
  go_loopw [9, 10, 11] (fun i j h wr => ∃ p q : Nat, i = .int .i64 p ∧ j = .int .i64 q ∧ p ≤ q ∧ q ≤ es.length ∧ (∀ k (hk : k < es.length), k < p → (es[k].1 : Int) < id) ∧ (∀ k (hk : k < es.length), q ≤ k → id ≤ (es[k].1 : Int)) ∧ Below w.heap.size w wr) (fun i j _ _ => (intOf j - intOf i).toNat)
  case atStart => exact ⟨0, es.length, rfl, rfl, Nat.zero_le _, Nat.le_refl _, fun k _ h => absurd h (Nat.not_lt_zero _), fun k hk h => absurd hk (by omega), Below.refl _ _⟩
  case round =>
    obtain ⟨p, q, rfl, rfl, hpq, hq, hlo, hhi, hB⟩ := hrel
    have HLO : Hid _ := hlo
    have HHI : Hid _ := hhi
    have HS : Hid _ := hs
    have HR : Hid _ := hr
    clear hlo hhi
    by_cases hlt : p < q
    · have hne : es ≠ [] := fun e => by rw [e] at hq; simp at hq; omega
      obtain ⟨rfl, hR⟩ := ha.resolve_left hne
      obtain ⟨m, hm⟩ : ∃ m, (p + q) / 2 = m := ⟨_, rfl⟩
      have hml : m < es.length := by omega
      have hmi : (m : Int) < (es.length : Int) := by omega
      obtain ⟨s, hs1⟩ := hs m hml
      have c0 := (hR.keep hB).id m hml
      have c1 := (hR.keep hB).thing m hml
      rw [hs1] at c1
      obtain ⟨x, hx⟩ : ∃ x, es[m].1 = x := ⟨_, rfl⟩
      rw [hx] at c0
      have e1 : ((p : Int) + (q : Int)) / 2 = (m : Int) := by omega
      have hm' : p ≤ m ∧ m < q := by omega
      clear hm hs1 hs hr ha
      have hca := cmpN x id s wr
      by_cases hxi : (x : Int) < id
      · rw [cmpI_lt hxi] at hca
        go_wp2_with fail
        refine hca.mono ?_; rintro e w1 ⟨rfl, b1⟩
        clear hca
        go_wp2_with fail
        go_roundw
        case rel => exact ⟨m + 1, q, by go_num, rfl, by omega, hq, low_up HR.out hml (by rw [hx]; exact hxi), HHI.out, btrans hB b1⟩
        case measure => simp [intOf]; omega
      · have hc0 : ¬ cmpI x id < 0 := cmpI_ge hxi
        obtain ⟨c, hc1⟩ : ∃ c, cmpI x id = c := ⟨_, rfl⟩
        rw [hc1] at hca hc0
        clear hc1
        go_wp2_with fail
        refine hca.mono ?_; rintro e w1 ⟨rfl, b1⟩
        clear hca
        go_wp2_with fail
        go_roundw
        case rel => exact ⟨p, m, rfl, rfl, by omega, by omega, HLO.out, low_down HR.out hml (by rw [hx]; exact hxi), btrans hB b1⟩
        case measure => simp [intOf]; omega
    · have hpe : p = q := by omega
      subst hpe
      have hL : Low es id p := ⟨hq, fun k hk => ⟨fun h => HLO.out k hk h, fun h => by
        rcases Nat.lt_or_ge k p with h1 | h1
        · exact h1
        · exact absurd h (Int.not_lt.2 (HHI.out k hk h1))⟩⟩
      clear hpq
      by_cases hpl : p < es.length
      · have hne : es ≠ [] := fun e => by rw [e] at hpl; simp at hpl
        obtain ⟨rfl, hR⟩ := ha.resolve_left hne
        have hmi : (p : Int) < (es.length : Int) := by omega
        obtain ⟨s, hs1⟩ := hs p hpl
        have c0 := (hR.keep hB).id p hpl
        have c1 := (hR.keep hB).thing p hpl
        rw [hs1] at c1
        have hat : isAt es id p = (cmpI es[p].1 id == 0) := by
          unfold isAt
          rw [List.getElem?_eq_getElem hpl]
          exact cmpI_beq _ _
        obtain ⟨x, hx⟩ : ∃ x, es[p].1 = x := ⟨_, rfl⟩
        rw [hx] at c0 hat
        have hca := cmpN x id s wr
        obtain ⟨c, hc1⟩ : ∃ c, cmpI x id = c := ⟨_, rfl⟩
        rw [hc1] at hca hat
        have HA : Hid _ := hat
        clear hc1 hs1 hs hr ha hat hx
        go_wp2_with fail
        refine hca.mono ?_; rintro e w1 ⟨rfl, b1⟩
        clear hca
        go_wp2_with fail
        go_ret2
        exact ⟨⟨p, hL, by rw [HA.out]; rfl⟩, btrans hB b1⟩
      · have hmi : ¬ (p : Int) < (es.length : Int) := by omega
        have hat : isAt es id p = false := by unfold isAt; rw [List.getElem?_eq_none (by omega)]; rfl
        have HA : Hid _ := hat
        clear hs hr ha hat
        go_wp2_with fail
        go_ret2
        exact ⟨⟨p, hL, by rw [HA.out]; rfl⟩, hB⟩
theorem info_rN : (Try.prog.info? 90).map (fun i => (i.zero, i.size, i.bytes)) = some (some (.agg #[.int .i64 0, .int .i64 0]), 2, 16) := by kernel_rfl
set_option maxRecDepth 100000 in
set_option maxHeartbeats 1000000 in
theorem deleteN (g cap k i : Nat) (cur : Array Value) (w : World) (hg : w.heap[g]? = some (.cells cur 90 (0, 0))) (hcs : cur.size = cap * 2) (hk : k + 1 ≤ cap) (hcap : cap ≤ maxLen) (hi : i ≤ k) (h1 : ∀ u ∈ cur.toList.take ((k + 1) * 2), u.oneCell' = true) :
    Calls Try.prog 47 #[.slice (some ⟨g, 0, none⟩) (k + 1) cap, .int .i64 i, .int .i64 (i + 1)] w fun e w' => e = .returned (.slice (some ⟨g, 0, none⟩) k cap) ∧ (∃ cur', w'.heap[g]? = some (.cells cur' 90 (0, 0)) ∧ cur'.size = cur.size ∧ cur'.toList.take (k * 2) = cur.toList.take (i * 2) ++ (cur.toList.drop ((i + 1) * 2)).take ((k - i) * 2)) ∧ Fr (fun j => j = g) w w' := by
  obtain ⟨i0, hi0, hz0, hz1, hz2⟩ := info_parts info_rN
  unfold maxLen at hcap
  have n1 : ((i : Int) == (i : Int) + 1) = false := beq_eq_false_iff_ne.2 (by omega)
  have n2 : (i : Int) + 1 ≤ (k : Int) + 1 := by omega
  have n3 : (k : Int) + 1 ≤ (cap : Int) := by omega
  have n7 : (0 : Int) ≤ (i : Int) + 1 := by omega
  have n4 : i ≤ cap := by omega
  have n5 : i + 1 ≤ cap := by omega
  have n6 : i ≤ k + 1 := by omega
  go_enter Try.func47, Try.ntmps47
  obtain ⟨news, hnews⟩ : ∃ news, news = (cur.toList.drop ((i + 1) * 2)).take ((k - i) * 2) := ⟨_, rfl⟩
  have hlen : news.length = (k - i) * 2 := by rw [hnews, List.length_take, List.length_drop, Array.length_toList]; omega
  obtain ⟨A, hA, hsrc⟩ : ∃ A : Addr, (if cap = i + 1 then some (⟨g, 0, none⟩ : Addr) else some ⟨g, (i + 1) * 2, none⟩) = some A ∧ Hid (∀ t u, news[t]? = some u → w.drew.cell? (A.add t) = some u) := by
    by_cases h : cap = i + 1
    · refine ⟨⟨g, 0, none⟩, by simp [h], fun t u hu => ?_⟩
      have h0 : news.length = 0 := by rw [hlen]; omega
      rw [List.length_eq_zero_iff.1 h0] at hu
      simp at hu
    · refine ⟨⟨g, (i + 1) * 2, none⟩, by simp [h], fun t u hu => ?_⟩
      rw [hnews] at hu
      exact row_cell hg t u hu
  have s1 : Hid (news.length = (k - i) * 2) := hlen
  have s2 : Hid (∀ u ∈ news, u.oneCell' = true) := by
    intro u hu
    rw [hnews] at hu
    refine h1 u ?_
    obtain ⟨j, hj⟩ := List.getElem?_of_mem hu
    rw [List.getElem?_take] at hj
    split at hj
    · rw [List.getElem?_drop] at hj
      refine List.mem_of_getElem? (i := (i + 1) * 2 + j) ?_
      rw [List.getElem?_take, if_pos (by omega)]; exact hj
    · cases hj
  have s3 : Hid (w.drew.heap[g]? = some (.cells cur 90 (0, 0))) := hg
  obtain ⟨W1, hW1⟩ : ∃ W1, W1 = w.drew.setRow g (cur.toList.take (i * 2) ++ news ++ cur.toList.drop (i * 2 + news.length)).toArray := ⟨_, rfl⟩
  have hW : Hid _ := hW1
  have s4 : Hid (i * 2 + news.length ≤ cur.size) := by rw [hlen, hcs]; exact (by omega : i * 2 + (k - i) * 2 ≤ cap * 2)
  have hw1 : W1.heap[g]? = some (.cells (cur.toList.take (i * 2) ++ news ++ cur.toList.drop (i * 2 + news.length)).toArray 90 (0, 0)) := by rw [hW1]; exact setRow_heap _ g cur _ _ _ s3.out
  have hsz : (cur.toList.take (i * 2) ++ news ++ cur.toList.drop (i * 2 + news.length)).toArray.size = cur.size := by
    rw [List.size_toArray, List.length_append, List.length_append, List.length_take, List.length_drop, Array.length_toList, hlen]; omega
  have hcl := fun ty => clear_two (P := Try.prog) (ty := ty) Try.underlying86 Try.zeroValue90 rfl rfl (g := g) (o := k * 2) (c := cap - k) hw1 (by rw [hsz]; omega)
  have hw2 := setRow_heap W1 g _ (((cur.toList.take (i * 2) ++ news ++ cur.toList.drop (i * 2 + news.length)).toArray.toList.take (k * 2) ++ [Value.int .i64 0, Value.int .i64 0] ++ (cur.toList.take (i * 2) ++ news ++ cur.toList.drop (i * 2 + news.length)).toArray.toList.drop (k * 2 + 2)).toArray) 90 (0, 0) hw1
  generalize hW2 : W1.setRow g (((cur.toList.take (i * 2) ++ news ++ cur.toList.drop (i * 2 + news.length)).toArray.toList.take (k * 2) ++ [Value.int .i64 0, Value.int .i64 0] ++ (cur.toList.take (i * 2) ++ news ++ cur.toList.drop (i * 2 + news.length)).toArray.toList.drop (k * 2 + 2)).toArray) = W2 at hcl hw2
  have hF1 : Fr (fun j => j = g) w W1 := by rw [hW1]; exact fr_setRow (Fr.refl (fun j => j = g) w).drew rfl _
  have hF2 : Fr (fun j => j = g) w W2 := by rw [← hW2]; exact fr_setRow (S := fun j => j = g) hF1 rfl _
  have HN : Hid _ := hnews
  have HZ : Hid _ := hsz
  have HL : Hid _ := hlen
  have H2 : Hid _ := hw2
  clear hW1 hnews hlen hsz hW2 hw1 hw2
  go_wp2_with fail
  go_region_law (refine step_append_row rfl (.tmp 22) (.tmp 25) 86 rfl 90 i0 2 Try.underlying86 hi0 hz1 g i cap cur s3.out (by simp [Act.eval, Act.put]) A (k - i) (cap - (i + 1)) news (by simp [Act.eval, Act.put]) s1.out hsrc.out s2.out (by omega) s4.out ?_; rw [← hW.out])
  go_wp2
  go_ret
  refine ⟨rfl, ⟨_, H2.out, ?_, ?_⟩, hF2⟩
  · have := HZ.out
    rw [List.size_toArray] at this ⊢
    simp only [List.length_append, List.length_take, List.length_drop, List.length_cons, List.length_nil] at this ⊢
    omega
  · have hn := HN.out
    have hl := HL.out
    subst hn
    rw [hl]
    exact del_cells (by rw [Array.length_toList]; exact hcs) hk hi

theorem tnewN (m : Int) (w : World) :
    Calls Try.prog 22 #[.int .i64 m] w fun e w' => e = .returned (.pointer (some ⟨w.heap.size, 0, none⟩)) ∧ w' = w.alloc (.cells #[.int .i64 (max m 1), .slice none 0 0, .int .i64 0] 88) := by
  go_enter Try.func22, Try.ntmps22
  go_wp2_with (go_at_call 42; refine (atLeastOne _ _).mono ?_; rintro e w' ⟨rfl, rfl⟩)
  go_ret
  exact ⟨rfl, rfl⟩
theorem tlenN (S : Nat → Prop) (b m L : Nat) (es : List (Nat × Value)) (w : World) (h : TableAt 88 90 2 w S b m es L) :
    Calls Try.prog 31 #[.pointer (some ⟨b, 0, none⟩)] w fun e w' => e = .returned (.int .i64 (es.length : Nat)) ∧ w' = w := by
  obtain ⟨v, hb, h1, h2, h3, h4, h5, h6, h7⟩ := h
  obtain ⟨c0, c1, c2, hlt⟩ := hb.cells
  obtain ⟨a, cap, rfl, _, _⟩ := hb.form
  clear h4 h5 h6 hb
  go_enter Try.func31, Try.ntmps31
  go_wp2
  go_ret
  exact ⟨rfl, rfl⟩
theorem AllN.cells {es : List (Nat × Value)} (h : AllN es) : ∀ k (hk : k < es.length), es[k].2.cells = #[es[k].2] := fun k hk => by
  obtain ⟨s, e⟩ := h k hk
  rw [e]; rfl
theorem findN (S : Nat → Prop) (b m L : Nat) (es : List (Nat × Value)) (id : Int) (w : World) (h : TableAt 88 90 2 w S b m es L) (hs : AllN es) :
    Calls Try.prog 46 #[.pointer (some ⟨b, 0, none⟩), .int .i64 id] w fun e w' => (∃ i, Low es id i ∧ e = .returned (.tuple #[.int .i64 i, .bool (isAt es id i)])) ∧ Below w.heap.size w w' := by
  obtain ⟨v, hb, h1, h2, h3, h4, h5, h6, h7⟩ := h
  obtain ⟨c0, c1, c2, hlt⟩ := hb.cells
  obtain ⟨g, cap, a, rfl, hc1, hc2, hrows⟩ := rows2_of_box hb h5 hs.cells
  have hc := searchN g cap a es id w hrows h4 hs (by omega) hc1 hc2
  clear h4 h5 h6 hb hrows hs
  go_enter Try.func46, Try.ntmps46
  go_wp2_with fail
  refine hc.mono ?_; rintro e w1 ⟨⟨i, hi, rfl⟩, b1⟩
  have HI : Hid _ := hi
  clear hc hi
  go_wp2_with fail
  go_ret2
  exact ⟨⟨i, HI.out, rfl⟩, b1⟩
/-- The id is there. -/
theorem getN_yes (S : Nat → Prop) (b m L : Nat) (es : List (Nat × Value)) (id : Int) (k : Nat) (hk : k < es.length) (w : World) (h : TableAt 88 90 2 w S b m es L) (hs : AllN es) (hid : (es[k].1 : Int) = id) :
    Calls Try.prog 27 #[.pointer (some ⟨b, 0, none⟩), .int .i64 id] w fun e w' => e = .returned (.tuple #[es[k].2, .bool true]) ∧ Below w.heap.size w w' := by
  have hF := findN S b m L es id w h hs
  have H : Hid _ := h
  have hr : Rise es := by obtain ⟨v, _, _, _, _, h4, _⟩ := h; exact h4
  have hat := isAt_yes hk hid
  have HR : Hid _ := hr
  have HS : Hid _ := hs
  have HD : Hid _ := hid
  have HAT : Hid _ := hat
  clear hr hs hid hat h
  go_enter Try.func27, Try.ntmps27
  go_wp2_with fail
  refine hF.mono ?_; rintro e w1 ⟨⟨i, hi, rfl⟩, b1⟩
  obtain rfl := low_eq hi hk HR.out HD.out
  rw [HAT.out]
  clear hF hi
  obtain ⟨v, hb, h1, h2, h3, h4, h5, h6, h7⟩ := TableAt.below H.out b1
  obtain ⟨c0, c1, c2, hlt⟩ := hb.cells
  obtain ⟨g, cap, a, rfl, hc1, hc2, hrows⟩ := rows2_of_box hb h5 (AllN.cells HS.out)
  obtain ⟨rfl, hR⟩ := hrows.resolve_left (fun e => by rw [e] at hk; simp at hk)
  have r1 := hR.thing i hk
  obtain ⟨x, hx⟩ : ∃ x, es[i].2 = x := ⟨_, rfl⟩
  rw [hx] at r1
  have HX : Hid _ := hx
  have hi' : (i : Int) < (es.length : Int) := by omega
  unfold maxLen at hc2
  clear h4 h5 h6 hb hrows hR hx
  go_wp2_with fail
  go_ret2
  exact ⟨by rw [HX.out]; rfl, b1⟩
/-- The id is not there. -/
theorem getN_no (S : Nat → Prop) (b m L : Nat) (es : List (Nat × Value)) (id : Int) (w : World) (h : TableAt 88 90 2 w S b m es L) (hs : AllN es) (hid : ∀ k (hk : k < es.length), (es[k].1 : Int) ≠ id) :
    Calls Try.prog 27 #[.pointer (some ⟨b, 0, none⟩), .int .i64 id] w fun e w' => e = .returned (.tuple #[.int .i64 0, .bool false]) ∧ Below w.heap.size w w' := by
  have hF := findN S b m L es id w h hs
  have HD : Hid _ := hid
  clear hs hid h
  go_enter Try.func27, Try.ntmps27
  go_wp2_with fail
  refine hF.mono ?_; rintro e w1 ⟨⟨i, hi, rfl⟩, b1⟩
  rw [isAt_no i HD.out]
  clear hF hi
  go_wp2_with fail
  go_ret2
  exact ⟨rfl, b1⟩
theorem putN_no (S : Nat → Prop) (b m L : Nat) (es : List (Nat × Value)) (id : Int) (s : Int) (w : World) (h : TableAt 88 90 2 w S b m es L) (hs : AllN es) (hid : ∀ k (hk : k < es.length), (es[k].1 : Int) ≠ id) :
    Calls Try.prog 28 #[.pointer (some ⟨b, 0, none⟩), .int .i64 id, .int .i64 s] w fun e w' => e = .returned (.bool false) ∧ Below w.heap.size w w' := by
  have hF := findN S b m L es id w h hs
  have HD : Hid _ := hid
  clear hs hid h
  go_enter Try.func28, Try.ntmps28
  go_wp2_with fail
  refine hF.mono ?_; rintro e w1 ⟨⟨i, hi, rfl⟩, b1⟩
  rw [isAt_no i HD.out]
  clear hF hi
  go_wp2_with fail
  go_ret
  exact ⟨rfl, b1⟩
theorem dropN_no (S : Nat → Prop) (b m L : Nat) (es : List (Nat × Value)) (id : Int) (w : World) (h : TableAt 88 90 2 w S b m es L) (hs : AllN es) (hid : ∀ k (hk : k < es.length), (es[k].1 : Int) ≠ id) :
    Calls Try.prog 29 #[.pointer (some ⟨b, 0, none⟩), .int .i64 id] w fun e w' => e = .returned (.bool false) ∧ Below w.heap.size w w' := by
  have hF := findN S b m L es id w h hs
  have HD : Hid _ := hid
  clear hs hid h
  go_enter Try.func29, Try.ntmps29
  go_wp2_with fail
  refine hF.mono ?_; rintro e w1 ⟨⟨i, hi, rfl⟩, b1⟩
  rw [isAt_no i HD.out]
  clear hF hi
  go_wp2_with fail
  go_ret
  exact ⟨rfl, b1⟩
theorem putN_yes (S : Nat → Prop) (b m L : Nat) (es : List (Nat × Value)) (id : Int) (k : Nat) (hk : k < es.length) (s : Int) (w : World) (h : TableAt 88 90 2 w S b m es L) (hs : AllN es) (hid : (es[k].1 : Int) = id) :
    Calls Try.prog 28 #[.pointer (some ⟨b, 0, none⟩), .int .i64 id, .int .i64 s] w fun e w' => e = .returned (.bool true) ∧ TableAt 88 90 2 w' S b m (es.set k (es[k].1, .int .i64 s)) L ∧ Fr S w w' := by
  have hF := findN S b m L es id w h hs
  have H : Hid _ := h
  have hr : Rise es := by obtain ⟨v, _, _, _, _, h4, _⟩ := h; exact h4
  have hat := isAt_yes hk hid
  have HR : Hid _ := hr
  have HS : Hid _ := hs
  have HD : Hid _ := hid
  have HAT : Hid _ := hat
  clear hr hs hid hat h
  go_enter Try.func28, Try.ntmps28
  go_wp2_with fail
  refine hF.mono ?_; rintro e w1 ⟨⟨i, hi, rfl⟩, b1⟩
  obtain rfl := low_eq hi hk HR.out HD.out
  rw [HAT.out]
  clear hF hi
  obtain ⟨v, hb, h1, h2, h3, h4, h5, h6, h7⟩ := TableAt.below H.out b1
  obtain ⟨c0, c1, c2, hlt⟩ := hb.cells
  have hfl := flat_length h5
  obtain ⟨g, cap, rfl, hc1, hc2, hgb, hSg, hgl, hcs, hfz⟩ := hb.at (j := i * 2 + 1) (by omega)
  have r1 := hcs (i * 2 + 1) (by omega)
  have r2 := hfz (i * 2 + 1) (by omega)
  obtain ⟨x, hx⟩ : ∃ x, (flat es)[i * 2 + 1] = x := ⟨_, rfl⟩
  rw [hx] at r1
  have hb2 := hb.setRow (j := i * 2 + 1) (by omega) (.int .i64 s) rfl
  rw [← flat_set h5 hk rfl rfl (AllN.cells HS.out i hk)] at hb2
  have hT : TableAt 88 90 2 (w1.setCell ⟨g, i * 2 + 1, none⟩ (.int .i64 s)) S b m (es.set i (es[i].1, .int .i64 s)) L := by
    refine ⟨_, by rw [List.length_set]; exact hb2, h1, h2, by rw [List.length_set]; exact h3, h4.set hk rfl, fun e he => ?_, fun k hk' => ?_, h7⟩
    · rcases List.mem_or_eq_of_mem_set he with he | rfl
      · exact h5 e he
      · rfl
    · rw [List.length_set] at hk'
      rw [List.getElem_set]
      split
      · exact h6 i hk
      · exact h6 k hk'
  have HT : Hid _ := hT
  have hFr : Fr S w (w1.setCell ⟨g, i * 2 + 1, none⟩ (.int .i64 s)) := (Fr.of_below S b1).setCell (p := ⟨g, i * 2 + 1, none⟩) hSg _
  have hi' : (i : Int) < (es.length : Int) := by omega
  unfold maxLen at hc2
  clear h4 h5 h6 hb hx hT hb2 hcs hfz hfl
  go_wp2_with fail
  go_ret
  exact ⟨rfl, HT.out, hFr⟩
set_option maxHeartbeats 1000000 in
theorem dropN_yes (S : Nat → Prop) (b m L : Nat) (es : List (Nat × Value)) (id : Int) (k : Nat) (hk : k < es.length) (w : World) (h : TableAt 88 90 2 w S b m es L) (hs : AllN es) (hid : (es[k].1 : Int) = id) :
    Calls Try.prog 29 #[.pointer (some ⟨b, 0, none⟩), .int .i64 id] w fun e w' => e = .returned (.bool true) ∧ ∃ S', TableAt 88 90 2 w' S' b m (es.eraseIdx k) L ∧ Fr S w w' ∧ Sub w S S' := by
  have hF := findN S b m L es id w h hs
  have H : Hid _ := h
  have hr : Rise es := by obtain ⟨v, _, _, _, _, h4, _⟩ := h; exact h4
  have hat := isAt_yes hk hid
  have HR : Hid _ := hr
  have HS : Hid _ := hs
  have HD : Hid _ := hid
  have HAT : Hid _ := hat
  clear hr hs hid hat h
  go_enter Try.func29, Try.ntmps29
  go_wp2_with fail
  refine hF.mono ?_; rintro e w1 ⟨⟨i, hi, rfl⟩, b1⟩
  obtain rfl := low_eq hi hk HR.out HD.out
  rw [HAT.out]
  clear hF hi
  obtain ⟨v, hb, h1, h2, h3, h4, h5, h6, h7⟩ := TableAt.below H.out b1
  obtain ⟨c0, c1, c2, hlt⟩ := hb.cells
  obtain ⟨n, hn⟩ : ∃ n, es.length = n + 1 := ⟨es.length - 1, by omega⟩
  rw [hn] at hb
  rcases hb.own.2 with ⟨_, h0⟩ | ⟨g, cap, cur, rfl, _, hg, hc1, hc2, hcs, htk⟩
  · omega
  have hdel := deleteN g cap n i cur w1 hg hcs hc1 hc2 (by omega) (by rw [htk]; exact hb.one)
  have HB : Hid _ := hb
  have HF : Hid _ := h5
  have HI : Hid _ := h4
  have H6 : Hid _ := h6
  have HK : Hid _ := htk
  unfold maxLen at hc2
  clear h4 h5 h6 hb htk hg
  go_wp2_with fail
  refine hdel.mono ?_; rintro e w2 ⟨rfl, ⟨cur', hg', hcs', htk'⟩, hF2⟩
  have hgr : w1.grownBy w2 (Value.slice (some ⟨g, 0, none⟩) (n + 1) cap).ownBlock := ⟨hF2.os, hF2.tape, hF2.output, hF2.size, fun j hj hne => hF2.block j hj (fun e => hne (by rw [e]; rfl))⟩
  have hflat : cur'.toList.take (n * 2) = flat (es.eraseIdx i) := by
    have e1 : cur.toList.take ((n + 1) * 2) = flat es := HK.out
    have e2 : cur.toList.take (i * 2) = flat (es.take i) := by
      rw [← flat_take HF.out (by omega), ← e1, List.take_take]; congr 1; omega
    have e3 : (cur.toList.drop ((i + 1) * 2)).take ((n - i) * 2) = flat (es.drop (i + 1)) := by
      rw [← flat_drop HF.out (by omega), ← e1, List.drop_take]; congr 1; omega
    rw [htk', e2, e3, ← flat_append, List.eraseIdx_eq_take_drop_succ]
  have hlen : (es.eraseIdx i).length = n := by rw [List.length_eraseIdx, if_pos (by omega)]; omega
  have hone : ∀ u ∈ flat (es.eraseIdx i), u.oneCell' = true := by
    intro u hu
    refine HB.out.one u ?_
    rw [List.eraseIdx_eq_take_drop_succ, flat_append] at hu
    rcases List.mem_append.1 hu with hu | hu
    · rw [← flat_take HF.out (by omega)] at hu; exact List.mem_of_mem_take hu
    · rw [← flat_drop HF.out (by omega)] at hu; exact List.mem_of_mem_drop hu
  have hown : w2.ownsRow 0 90 2 (.slice (some ⟨g, 0, none⟩) n cap) n (flat (es.eraseIdx i)) :=
    ⟨by rw [flat_length (Fit.eraseIdx HF.out i), hlen], .inr ⟨g, cap, cur', rfl, Nat.zero_le _, hg', by omega, by unfold maxLen; omega, by omega, hflat⟩⟩
  have hG := HB.out.grown (Fr.refl _ w1) hgr hown (fun j hj => .inl hj) hone
  obtain ⟨d0, d1, d2, d3⟩ := HB.out.grown_cells (Fr.refl _ w1) hgr
  have HG : Hid _ := hG
  have HL : Hid _ := hlen
  clear hdel hF2 hgr hflat hone hown hG htk' hlen hg'
  go_wp2_with fail
  go_ret
  obtain ⟨hb2, hf2⟩ := HG.out
  refine ⟨rfl, _, ⟨_, by rw [HL.out]; exact hb2, h1, h2, by rw [HL.out]; omega, Rise.eraseIdx HI.out i, Fit.eraseIdx HF.out i, fun k hk' => ?_, h7⟩, (Fr.of_below S b1).trans hf2 (fun _ _ h => h), fun k (hk' : S k ∨ (w1.heap.size ≤ k ∧ k < w2.heap.size)) => hk'.imp (fun e => e) (fun e => Nat.le_trans b1.size e.1)⟩
  rw [HL.out] at hk'
  rw [List.getElem_eraseIdx]
  split
  · exact H6.out k (by omega)
  · exact H6.out (k + 1) (by omega)
theorem addN_full (S : Nat → Prop) (b m L : Nat) (es : List (Nat × Value)) (s : Int) (w : World) (h : TableAt 88 90 2 w S b m es L) (hf : es.length = m) :
    Calls Try.prog 23 #[.pointer (some ⟨b, 0, none⟩), .int .i64 s] w fun e w' => e = .returned (.tuple #[.int .i64 0, .int .i64 5]) ∧ Below w.heap.size w w' := by
  obtain ⟨v, hb, h1, h2, h3, h4, h5, h6, h7⟩ := h
  obtain ⟨c0, c1, c2, hlt⟩ := hb.cells
  obtain ⟨a, cap, rfl, _, _⟩ := hb.form
  subst hf
  have hr' : (es.length : Int) ≤ (es.length : Int) := by omega
  clear h4 h5 h6 hb
  go_enter Try.func23, Try.ntmps23
  go_wp2_with fail
  go_quiet (fail)
  go_wp2
  go_ret2
  exact ⟨rfl, below_drewN _ _⟩
set_option maxRecDepth 100000 in
set_option maxHeartbeats 1000000 in
theorem addN_room (S : Nat → Prop) (b m L : Nat) (es : List (Nat × Value)) (s : Int) (w : World) (h : TableAt 88 90 2 w S b m es L) (hf : es.length < m) (hL : L < 1000000) :
    Calls Try.prog 23 #[.pointer (some ⟨b, 0, none⟩), .int .i64 s] w fun e w' => e = .returned (.tuple #[.int .i64 (L + 1 : Nat), .int .i64 0]) ∧ ∃ S', TableAt 88 90 2 w' S' b m (es ++ [(L + 1, .int .i64 s)]) (L + 1) ∧ Fr S w w' ∧ Sub w S S' := by
  obtain ⟨v, hb, h1, h2, h3, h4, h5, h6, h7⟩ := h
  obtain ⟨c0, c1, c2, hlt⟩ := hb.cells
  obtain ⟨a, cap, rfl, _, hcm⟩ := hb.form
  have fz := hb.thaw 2
  have hr' : ¬ (m : Int) ≤ (es.length : Int) := by omega
  obtain ⟨i0, hi0, hz0, hz1, hz2⟩ := info_parts info_rN
  have HB : Hid _ := hb
  have HF : Hid _ := h5
  have HI : Hid _ := h4
  have H6 : Hid _ := h6
  unfold maxLen at hcm
  clear h4 h5 h6 hb
  go_enter Try.func23, Try.ntmps23
  go_wp2_with fail
  go_quiet (fail)
  go_wp2_with fail
  have hbW := (HB.out.drewN nq).setThird ((L : Int) + 1)
  have hFW : Fr S w ((w.drewN nq).setCell ⟨b, 2, none⟩ (.int .i64 ((L : Int) + 1))) := ((Fr.refl S w).drewN nq).setCell (p := ⟨b, 2, none⟩) HB.out.inb _
  generalize (w.drewN nq).setCell ⟨b, 2, none⟩ (.int .i64 ((L : Int) + 1)) = W at *
  obtain ⟨c0, c1, c2, hlt⟩ := hbW.cells
  have HW : Hid _ := hbW
  clear hbW fz
  go_region_law ((refine step_append_lies _ (by rfl) _ _ 86 (by rfl) 0 90 i0 (.agg #[.int .i64 0, .int .i64 0]) 2 16 Try.underlying86 hi0 hz0 hz1 hz2 rfl (by decide) _ es.length (flat es) (by rfl) ((HW.out.drewN 1).own.alloc _) ⟨W.heap.size, 0, none⟩ 1 1 [.int .i64 ((L : Int) + 1), .int .i64 s] (by rfl) rfl (World.news_of_block (heap_alloc_new _ _)) (by intro u hu; simp at hu; rcases hu with rfl | rfl <;> rfl) (by decide) (by unfold maxLen; omega) (by omega) (Nat.zero_le _) (W.heap.size + 1) (by simp) ?_; intro g cap' w1 hown' hgrow hat hglt; obtain ⟨d0, d1, d2, d3⟩ := HW.out.grown_cells (Fr.start_alloc _ _ 1 _) hgrow; have HG : Hid _ := HW.out.grown (Fr.start_alloc _ _ 1 _) hgrow hown' (own_new hat (Nat.le_succ _)) (ones_two HW.out.one rfl rfl); clear hat hown' hgrow hglt))
  all_goals
    go_wp2
    go_ret2
    obtain ⟨hb2, hf2⟩ := HG.out
    exact ⟨rfl, _, table_added hb2 h1 h2 hf HI.out HF.out H6.out hL rfl, hFW.trans hf2 (fun _ _ h => h), fun k (hk' : S k ∨ (W.heap.size ≤ k ∧ k < w1.heap.size)) => hk'.imp (fun e => e) (fun e => Nat.le_trans hFW.size e.1)⟩
end Go.Proofs.Ytechkkidebkadaa
