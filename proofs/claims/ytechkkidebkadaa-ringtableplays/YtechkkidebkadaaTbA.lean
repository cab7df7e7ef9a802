/- Layer 2 (ring): tables: how they lie in memory; cmp.Compare; the search of Table[string]. -/
import Derived.Test.YtechkkidebkadaaRgB
namespace Go.Proofs.Ytechkkidebkadaa
open Go.RowKit
set_option linter.unusedVariables false
attribute [local go_sem ↓] Go.wp_at_zero Go.wp_at_succ

/-- The cells of rows, one behind the other: each row its id and its thing. -/
def flat (es : List (Nat × Value)) : List Value := es.flatMap fun e => .int .i64 e.1 :: e.2.cells.toList
/-- Things of so many cells less one. -/
def Fit (sz : Nat) (es : List (Nat × Value)) : Prop := ∀ e ∈ es, e.2.cells.size + 1 = sz
theorem flat_length {sz : Nat} : ∀ {es : List (Nat × Value)}, Fit sz es → (flat es).length = es.length * sz
  | [], _ => by simp [flat]
  | e :: r, h => by
    have h1 := h e (List.mem_cons_self ..)
    have h2 := flat_length (es := r) (fun x hx => h x (List.mem_cons_of_mem _ hx))
    have h3 : flat (e :: r) = (.int .i64 e.1 :: e.2.cells.toList) ++ flat r := by simp [flat]
    rw [h3, List.length_append, h2, List.length_cons, List.length_cons, Array.length_toList, Nat.add_mul]
    omega
theorem flat_append (a b : List (Nat × Value)) : flat (a ++ b) = flat a ++ flat b := by simp [flat]
theorem Fit.take {sz : Nat} {es : List (Nat × Value)} (h : Fit sz es) (k : Nat) : Fit sz (es.take k) := fun e he => h e (List.mem_of_mem_take he)
theorem Fit.drop {sz : Nat} {es : List (Nat × Value)} (h : Fit sz es) (k : Nat) : Fit sz (es.drop k) := fun e he => h e (List.mem_of_mem_drop he)
theorem flat_cons (e : Nat × Value) (r : List (Nat × Value)) : flat (e :: r) = (.int .i64 e.1 :: e.2.cells.toList) ++ flat r := by simp [flat]
/-- The cells of one row. -/
theorem flat_at {sz : Nat} {es : List (Nat × Value)} (h : Fit sz es) {k : Nat} (hk : k < es.length) (j : Nat) (hj : j < sz) : (flat es)[k * sz + j]? = (Value.int .i64 es[k].1 :: es[k].2.cells.toList)[j]? := by
  have e : es = es.take k ++ es[k] :: es.drop (k + 1) := by rw [← List.drop_eq_getElem_cons hk, List.take_append_drop]
  have hl : (flat (es.take k)).length = k * sz := by rw [flat_length (h.take k), List.length_take, Nat.min_eq_left (by omega)]
  have h3 : flat (es[k] :: es.drop (k + 1)) = (.int .i64 es[k].1 :: es[k].2.cells.toList) ++ flat (es.drop (k + 1)) := flat_cons _ _
  have hw := h es[k] (List.getElem_mem hk)
  conv => lhs; rw [e]
  rw [flat_append, List.getElem?_append_right (by omega), hl, Nat.add_sub_cancel_left, h3, List.getElem?_append_left (by rw [List.length_cons, Array.length_toList]; omega)]

theorem isNaN (a : Int) (w : World) :
    Calls Try.prog 57 #[.int .i64 a] w fun e w' => e = .returned (.bool false) ∧ w' = w := by
  have h : (a != a) = false := by simp
  go_enter Try.func57, Try.ntmps57
  go_wp2
  go_ret
  exact ⟨rfl, rfl⟩
/-- Which of two is less. -/
def cmpI (a b : Int) : Int := if a < b then -1 else if b < a then 1 else 0
theorem cmpI_lt {a b : Int} (h : a < b) : cmpI a b = -1 := by unfold cmpI; rw [if_pos h]
theorem cmpI_ge {a b : Int} (h : ¬ a < b) : ¬ cmpI a b < 0 := by unfold cmpI; rw [if_neg h]; split <;> omega
theorem cmpI_beq (a b : Int) : (a == b) = (cmpI a b == 0) := by
  rw [Bool.eq_iff_iff, beq_iff_eq, beq_iff_eq]
  unfold cmpI
  split
  · omega
  · split <;> omega
theorem compare (a b : Int) (w : World) :
    Calls Try.prog 54 #[.int .i64 a, .int .i64 b] w fun e w' => e = .returned (.int .i64 (cmpI a b)) ∧ w' = w := by
  go_enter Try.func54, Try.ntmps54
  go_wp2_with (go_at_call 57; refine (isNaN _ _).mono ?_; rintro e w' ⟨rfl, rfl⟩)
  all_goals go_ret
  all_goals exact ⟨ret_int (by unfold cmpI; first | rw [if_pos (by omega)] | (rw [if_neg (by omega)]; first | rw [if_pos (by omega)] | rw [if_neg (by omega)])), rfl⟩

theorem cmpS (a b : Int) (s : ByteArray) (w : World) :
    Calls Try.prog 56 #[.agg #[.int .i64 a, .string s], .int .i64 b] w fun e w' => e = .returned (.int .i64 (cmpI a b)) ∧ Below w.heap.size w w' := by
  go_enter Try.func56, Try.ntmps56
  go_wp2_with (go_at_call 54; refine (compare _ _ _).mono ?_; rintro e w' ⟨rfl, rfl⟩)
  go_ret
  exact ⟨rfl, (Below.refl _ _).alloc (Nat.le_refl _) _⟩

/-- A place in a rising row of ids: those ahead of it are less, those from it on are not. -/
def Low (es : List (Nat × Value)) (id : Int) (i : Nat) : Prop := i ≤ es.length ∧ ∀ k (hk : k < es.length), k < i ↔ (es[k].1 : Int) < id
/-- Rising ids. -/
def Rise (es : List (Nat × Value)) : Prop := ∀ i j (hj : j < es.length) (hij : i < j), es[i].1 < es[j].1
/-- Where rows lie. -/
structure Rows2 (w : World) (g : Nat) (es : List (Nat × Value)) : Prop where
  id : ∀ k (hk : k < es.length), w.cell? ⟨g, k * 2, none⟩ = some (.int .i64 es[k].1)
  thing : ∀ k (hk : k < es.length), w.cell? ⟨g, k * 2 + 1, none⟩ = some es[k].2
  lt : g < w.heap.size
theorem Rows2.keep {w w' : World} {g : Nat} {es : List (Nat × Value)} (h : Rows2 w g es) (hb : Below w.heap.size w w') : Rows2 w' g es :=
  ⟨fun k hk => (hb.cell (p := ⟨g, k * 2, none⟩) h.lt).trans (h.id k hk), fun k hk => (hb.cell (p := ⟨g, k * 2 + 1, none⟩) h.lt).trans (h.thing k hk), Nat.lt_of_lt_of_le h.lt hb.size⟩
theorem btrans {a b c : World} (h : Below a.heap.size a b) (k : Below b.heap.size b c) : Below a.heap.size a c := h.trans (k.mono h.size)
/-- All things are texts. -/
def AllS (es : List (Nat × Value)) : Prop := ∀ k (hk : k < es.length), ∃ s, es[k].2 = .string s
theorem low_up {es : List (Nat × Value)} {id : Int} {h : Nat} (hr : Rise es) (hh : h < es.length) (hc : (es[h].1 : Int) < id) : ∀ k (hk : k < es.length), k < h + 1 → (es[k].1 : Int) < id := by
  intro k hk hlt
  by_cases e : k = h
  · subst e; exact hc
  · have := hr k h hh (by omega); omega
theorem low_down {es : List (Nat × Value)} {id : Int} {h : Nat} (hr : Rise es) (hh : h < es.length) (hc : id ≤ (es[h].1 : Int)) : ∀ k (hk : k < es.length), h ≤ k → id ≤ (es[k].1 : Int) := by
  intro k hk hle
  by_cases e : h = k
  · subst e; exact hc
  · have := hr h k hk (by omega); omega
/-- Is this id at that place? -/
def isAt (es : List (Nat × Value)) (id : Int) (i : Nat) : Bool := (es[i]?).any fun e => (e.1 : Int) == id

set_option maxRecDepth 100000 in
set_option maxHeartbeats 1000000 in
theorem searchS (g cap : Nat) (a : Option Addr) (es : List (Nat × Value)) (id : Int) (w : World) (ha : es = [] ∨ a = some ⟨g, 0, none⟩ ∧ Rows2 w g es) (hr : Rise es) (hs : AllS es) (hn : es.length ≤ 1000) (hc : es.length ≤ cap) (hcm : cap ≤ maxLen) :
    Calls Try.prog 55 #[.slice a es.length cap, .int .i64 id, .func (.func 56) #[] #[]] w fun e w' => (∃ i, Low es id i ∧ e = .returned (.tuple #[.int .i64 i, .bool (isAt es id i)])) ∧ Below w.heap.size w w' := by
  unfold maxLen at hcm
  go_enter Try.func55, Try.ntmps55
  go_wp2_with fail
  go_loopw [9, 10, 11] (fun i j h wr => ∃ p q : Nat, i = .int .i64 p ∧ j = .int .i64 q ∧ p ≤ q ∧ q ≤ es.length ∧ (∀ k (hk : k < es.length), k < p → (es[k].1 : Int) < id) ∧ (∀ k (hk : k < es.length), q ≤ k → id ≤ (es[k].1 : Int)) ∧ Below w.heap.size w wr) (fun i j _ _ => (intOf j - intOf i).toNat)
  case atStart => exact ⟨0, es.length, rfl, rfl, Nat.zero_le _, Nat.le_refl _, fun k _ h => absurd h (Nat.not_lt_zero _), fun k hk h => absurd hk (by omega), Below.refl _ _⟩
  case round =>
    obtain ⟨p, q, rfl, rfl, hpq, hq, hlo, hhi, hB⟩ := hrel
    have HLO : Hid _ := hlo
    have HHI : Hid _ := hhi
    have HS : Hid _ := hs
    have HR : Hid _ := hr
    clear hlo hhi
    by_cases hlt : p < q
    · have hne : es ≠ [] := fun e => by rw [e] at hq; simp at hq; omega
      obtain ⟨rfl, hR⟩ := ha.resolve_left hne
      obtain ⟨m, hm⟩ : ∃ m, (p + q) / 2 = m := ⟨_, rfl⟩
      have hml : m < es.length := by omega
      have hmi : (m : Int) < (es.length : Int) := by omega
      obtain ⟨s, hs1⟩ := hs m hml
      have c0 := (hR.keep hB).id m hml
      have c1 := (hR.keep hB).thing m hml
      rw [hs1] at c1
      obtain ⟨x, hx⟩ : ∃ x, es[m].1 = x := ⟨_, rfl⟩
      rw [hx] at c0
      have e1 : ((p : Int) + (q : Int)) / 2 = (m : Int) := by omega
      have hm' : p ≤ m ∧ m < q := by omega
      clear hm hs1 hs hr ha
      have hca := cmpS x id s wr
      by_cases hxi : (x : Int) < id
      · rw [cmpI_lt hxi] at hca
        go_wp2_with fail
        refine hca.mono ?_; rintro e w1 ⟨rfl, b1⟩
        clear hca
        go_wp2_with fail
        go_roundw
        case rel => exact ⟨m + 1, q, by go_num, rfl, by omega, hq, low_up HR.out hml (by rw [hx]; exact hxi), HHI.out, btrans hB b1⟩
        case measure => simp [intOf]; omega
      · have hc0 : ¬ cmpI x id < 0 := cmpI_ge hxi
        obtain ⟨c, hc1⟩ : ∃ c, cmpI x id = c := ⟨_, rfl⟩
        rw [hc1] at hca hc0
        clear hc1
        go_wp2_with fail
        refine hca.mono ?_; rintro e w1 ⟨rfl, b1⟩
        clear hca
        go_wp2_with fail
        go_roundw
        case rel => exact ⟨p, m, rfl, rfl, by omega, by omega, HLO.out, low_down HR.out hml (by rw [hx]; exact hxi), btrans hB b1⟩
        case measure => simp [intOf]; omega
    · have hpe : p = q := by omega
      subst hpe
      have hL : Low es id p := ⟨hq, fun k hk => ⟨fun h => HLO.out k hk h, fun h => by
        rcases Nat.lt_or_ge k p with h1 | h1
        · exact h1
        · exact absurd h (Int.not_lt.2 (HHI.out k hk h1))⟩⟩
      clear hpq
      by_cases hpl : p < es.length
      · have hne : es ≠ [] := fun e => by rw [e] at hpl; simp at hpl
        obtain ⟨rfl, hR⟩ := ha.resolve_left hne
        have hmi : (p : Int) < (es.length : Int) := by omega
        obtain ⟨s, hs1⟩ := hs p hpl
        have c0 := (hR.keep hB).id p hpl
        have c1 := (hR.keep hB).thing p hpl
        rw [hs1] at c1
        have hat : isAt es id p = (cmpI es[p].1 id == 0) := by
          unfold isAt
          rw [List.getElem?_eq_getElem hpl]
          exact cmpI_beq _ _
        obtain ⟨x, hx⟩ : ∃ x, es[p].1 = x := ⟨_, rfl⟩
        rw [hx] at c0 hat
        have hca := cmpS x id s wr
        obtain ⟨c, hc1⟩ : ∃ c, cmpI x id = c := ⟨_, rfl⟩
        rw [hc1] at hca hat
        have HA : Hid _ := hat
        clear hc1 hs1 hs hr ha hat hx
        go_wp2_with fail
        refine hca.mono ?_; rintro e w1 ⟨rfl, b1⟩
        clear hca
        go_wp2_with fail
        go_ret2
        exact ⟨⟨p, hL, by rw [HA.out]; rfl⟩, btrans hB b1⟩
      · have hmi : ¬ (p : Int) < (es.length : Int) := by omega
        have hat : isAt es id p = false := by unfold isAt; rw [List.getElem?_eq_none (by omega)]; rfl
        have HA : Hid _ := hat
        clear hs hr ha hat
        go_wp2_with fail
        go_ret2
        exact ⟨⟨p, hL, by rw [HA.out]; rfl⟩, hB⟩
end Go.Proofs.Ytechkkidebkadaa
