/- Layer 2 (ring): slices.Grow of nil, slices.Concat of two pieces of one row. -/
import Derived.Lib.AppendZerosOnto
import Derived.Test.YtechkkidebkadaaRgI
import Derived.Test.YtechkkidebkadaaTbA
namespace Go.Proofs.Ytechkkidebkadaa
open Go.RowKit
set_option linter.unusedVariables false
attribute [local go_sem ↓] Go.wp_at_zero Go.wp_at_succ

theorem hid {p : Prop} (h : p) : Hid p := h
theorem growI0 (w : World) :
    Calls Try.prog 51 #[.slice none 0 0, .int .i64 0] w fun e w' => e = .returned (.slice none 0 0) ∧ w' = w := by
  go_enter Try.func51, Try.ntmps51
  go_wp2
  go_ret
  exact ⟨rfl, rfl⟩
set_option maxRecDepth 100000 in
theorem growI (n : Nat) (hn : 0 < n) (hn2 : n ≤ 1000) (w : World) :
    Calls Try.prog 51 #[.slice none 0 0, .int .i64 n] w fun e w' => (∃ G, e = .returned (.slice (some ⟨w.heap.size, 0, none⟩) 0 G) ∧ w'.ownsRow w.heap.size 3 1 (.slice (some ⟨w.heap.size, 0, none⟩) 0 G) 0 []) ∧ Below w.heap.size w w' := by
  obtain ⟨i0, hi, hz0, hz1, hz2⟩ := info_parts info_I
  have hold : (Builtin.firstCells i0.size 0 (.slice none 0 0)).run Try.prog w.drew = .ok (([] : List Value).toArray) w.drew := run_firstCells_none w.drew i0.size 0 0 0
  have hrz : ∀ ty, (Builtin.append_ #[22, 3] ty #[.slice none 0 0, .int .i64 n]).run Try.prog w =
      .ok (.slice (some ⟨w.heap.size, 0, none⟩) (0 + n) (grownCap w (0 + n) 0 3)) (w.drew.alloc (.cells (([] : List Value).toArray ++ Builtin.zeroCells (Value.int .i64 0).cells n ++ Builtin.zeroCells (Value.int .i64 0).cells (grownCap w (0 + n) 0 3 - (0 + n))) 3)) := fun ty =>
    Lib.run_append_grow_zeros w 22 3 ty 3 i0 (.int .i64 0) .i64 .i64 Try.underlying22 Try.underlying3 hi hz0 none 0 0 [] hold n hn (by omega) (by omega) (by omega) (by rw [hz2]; omega) (growslice_fits (by omega) (by rw [hz2]; omega))
  have hGn : 0 + n ≤ grownCap w (0 + n) 0 3 := grownCap_ge w _ _ _
  have hGm : grownCap w (0 + n) 0 3 ≤ maxLen := grownCap_le_maxLen w (0 + n) 0 3 (by unfold maxLen; omega)
  obtain ⟨G, hG⟩ : ∃ G, grownCap w (0 + n) 0 3 = G := ⟨_, rfl⟩
  rw [hG] at hrz hGn hGm
  have hrow : (w.drew.alloc (.cells (([] : List Value).toArray ++ Builtin.zeroCells (Value.int .i64 0).cells n ++ Builtin.zeroCells (Value.int .i64 0).cells (G - (0 + n))) 3)).ownsRow w.heap.size 3 1 (.slice (some ⟨w.heap.size, 0, none⟩) 0 G) 0 [] :=
    World.ownsRow_made w.drew _ G (Nat.le_refl _) hGm (by simp only [Array.size_append, size_zeroCells, List.size_toArray, List.length_nil]; rw [show (Value.int .i64 0).cells.size = 1 from rfl]; omega)
  have hB : Below w.heap.size w (w.drew.alloc (.cells (([] : List Value).toArray ++ Builtin.zeroCells (Value.int .i64 0).cells n ++ Builtin.zeroCells (Value.int .i64 0).cells (G - (0 + n))) 3)) := (Below.refl _ w).drew.alloc (Nat.le_refl _) _
  generalize w.drew.alloc (.cells (([] : List Value).toArray ++ Builtin.zeroCells (Value.int .i64 0).cells n ++ Builtin.zeroCells (Value.int .i64 0).cells (G - (0 + n))) 3) = W at hrz hrow hB
  have HR := hid hrow
  clear hold hG hrow
  unfold maxLen at hGm
  go_enter Try.func51, Try.ntmps51
  go_wp2_with (at_builtin; refine Lib.wpList_append_run _ rfl _ _ _ _ rfl _ _ rfl rfl _ _ (hrz _) ?_)
  go_ret
  exact ⟨⟨G, rfl, HR.out⟩, hB⟩

theorem concatI0 (c k0 k1 : Nat) (a0 a1 : Option Addr) (w : World) (c0 : w.cell? ⟨c, 0, none⟩ = some (.slice a0 0 k0)) (c1 : w.cell? ⟨c, 1, none⟩ = some (.slice a1 0 k1)) :
    Calls Try.prog 44 #[.slice (some ⟨c, 0, none⟩) 2 2] w fun e w' => e = .returned (.slice none 0 0) ∧ w' = w := by
  go_enter Try.func44, Try.ntmps44
  go_wp2_with fail
  go_loop [3, 11] (fun s i => ∃ k : Nat, k ≤ 2 ∧ i = .int .i64 k ∧ s = .int .i64 0) (fun _ i => 2 - (intOf i).toNat)
  case atStart => exact ⟨0, by omega, rfl, rfl⟩
  case round =>
    obtain ⟨k, hk, rfl, rfl⟩ := hrel
    obtain rfl | rfl | rfl : k = 0 ∨ k = 1 ∨ k = 2 := by omega
    · go_wp2_with fail
      go_round
      case rel => exact ⟨1, by omega, rfl, rfl⟩
      case measure => simp [intOf]
    · go_wp2_with fail
      go_round
      case rel => exact ⟨2, by omega, rfl, rfl⟩
      case measure => simp [intOf]
    · go_wp2_with fail
      refine (growI0 w).mono ?_; rintro e w1 ⟨rfl, rfl⟩
      go_wp2_with fail
      go_loop [6, 27] (fun s i => ∃ k : Nat, k ≤ 2 ∧ i = .int .i64 k ∧ s = .slice none 0 0) (fun _ i => 2 - (intOf i).toNat)
      case atStart => exact ⟨0, by omega, rfl, rfl⟩
      case round =>
        obtain ⟨k, hk, rfl, rfl⟩ := hrel
        obtain rfl | rfl | rfl : k = 0 ∨ k = 1 ∨ k = 2 := by omega
        · cases a0
          all_goals
            go_wp2_with fail
            go_round
            case rel => exact ⟨1, by omega, rfl, rfl⟩
            case measure => simp [intOf]
        · cases a1
          all_goals
            go_wp2_with fail
            go_round
            case rel => exact ⟨2, by omega, rfl, rfl⟩
            case measure => simp [intOf]
        · go_wp2_with fail
          go_ret
          exact ⟨rfl, rfl⟩
/-- Rows of one cell each: some of them, from a place on. -/
theorem news_at {w : World} {g o : Nat} {ys zs : List Value} (hc : ∀ i (hi : i < ys.length), w.cell? ⟨g, i, none⟩ = some ys[i]) (hz : ∀ j u, zs[j]? = some u → ys[o + j]? = some u) : ∀ j u, zs[j]? = some u → w.cell? ((⟨g, o, none⟩ : Addr).add j) = some u := by
  intro j u hu
  have h1 := hz j u hu
  obtain ⟨hl, he⟩ := List.getElem?_eq_some_iff.1 h1
  rw [Addr.add_lit, hc _ hl, he]
set_option maxRecDepth 100000 in
set_option maxHeartbeats 1000000 in
theorem concatI (c g f cap k1 : Nat) (ys : List Value) (w : World) (hf : f < ys.length) (hl : ys.length ≤ 1000) (hg : g < w.heap.size) (hcl : c < w.heap.size)
    (c0 : w.cell? ⟨c, 0, none⟩ = some (.slice (some ⟨g, f, none⟩) (ys.length - f) k1)) (c1 : w.cell? ⟨c, 1, none⟩ = some (.slice (some ⟨g, 0, none⟩) f cap)) (hc : ∀ i (hi : i < ys.length), w.cell? ⟨g, i, none⟩ = some ys[i]) (h1 : ∀ u ∈ ys, u.oneCell' = true) :
    Calls Try.prog 44 #[.slice (some ⟨c, 0, none⟩) 2 2] w fun e w' => (∃ v, e = .returned v ∧ w'.ownsRow w.heap.size 3 1 v ys.length (ys.drop f ++ ys.take f)) ∧ Below w.heap.size w w' := by
  obtain ⟨i0, hi, hz0, hz1, hz2⟩ := info_parts info_I
  obtain ⟨d, hd⟩ : ∃ d, ys.length - f = d := ⟨_, rfl⟩
  obtain ⟨n, hn⟩ : ∃ n, ys.length = n := ⟨_, rfl⟩
  have hdn : d + f = n := by omega
  have hdn' : (d : Int) + (f : Int) = (n : Int) := by omega
  rw [hd] at c0
  rw [hn] at hl hf ⊢
  have HC := hid hc
  have H1 := hid h1
  have HN := hid hn
  clear hc h1 hd hn
  go_enter Try.func44, Try.ntmps44
  go_wp2_with fail
  go_loop [3, 11] (fun s i => (s = .int .i64 0 ∧ i = .int .i64 0) ∨ (s = .int .i64 d ∧ i = .int .i64 1) ∨ (s = .int .i64 n ∧ i = .int .i64 2)) (fun _ i => 2 - (intOf i).toNat)
  case atStart => exact .inl ⟨rfl, rfl⟩
  case round =>
    rcases hrel with ⟨rfl, rfl⟩ | ⟨rfl, rfl⟩ | ⟨rfl, rfl⟩
    · go_wp2_with fail
      go_round
      case rel => exact .inr (.inl ⟨rfl, rfl⟩)
      case measure => simp [intOf]
    · go_wp2_with fail
      go_round
      case rel => exact .inr (.inr ⟨rfl, rfl⟩)
      case measure => simp [intOf]
    · go_wp2_with fail
      refine (growI n (by omega) hl w).mono ?_; rintro e w1 ⟨⟨G, rfl, hown⟩, b1⟩
      go_wp2_with fail
      go_loopw [6, 27] (fun s i wr => ((i = .int .i64 0 ∧ wr.ownsRow w.heap.size 3 1 s 0 []) ∨ (i = .int .i64 1 ∧ wr.ownsRow w.heap.size 3 1 s d (ys.drop f)) ∨ (i = .int .i64 2 ∧ wr.ownsRow w.heap.size 3 1 s n (ys.drop f ++ ys.take f))) ∧ Below w.heap.size w wr) (fun _ i _ => 2 - (intOf i).toNat)
      case atStart => exact ⟨.inl ⟨rfl, hown⟩, b1⟩
      case round =>
        obtain ⟨hrel, hB⟩ := hrel
        have hcw : ∀ i (hi : i < ys.length), wr.cell? ⟨g, i, none⟩ = some ys[i] := fun i hi => (hB.cell (p := ⟨g, i, none⟩) hg).trans (HC.out i hi)
        have c0 := (hB.cell (p := ⟨c, 0, none⟩) hcl).trans c0
        have c1 := (hB.cell (p := ⟨c, 1, none⟩) hcl).trans c1
        have HCW := hid hcw
        clear hown b1 hcw
        rcases hrel with ⟨rfl, ho⟩ | ⟨rfl, ho⟩ | ⟨rfl, ho⟩
        · have HO := hid ho
          clear ho
          go_wp2_with (at_builtin; refine wpList_append_own _ rfl _ _ 22 rfl w.heap.size 3 i0 (.int .i64 0) 1 8 Try.underlying22 hi hz0 hz1 hz2 rfl (by decide) _ 0 [] rfl HO.out ⟨g, f, none⟩ d k1 (ys.drop f) rfl (by rw [List.length_drop, HN.out]; omega) (news_at HCW.out (fun j u hu => by rw [List.getElem?_drop] at hu; exact hu)) (fun u hu => H1.out u (List.mem_of_mem_drop hu)) (by unfold maxLen; omega) (by omega) hB.size ?_; intro v' w2 ho2 hg2 _; have HO2 := hid ho2; have HB2 := hid (hB.grown hg2 hB.size (fun k e => (HO.out.lt k e).1)); clear ho2 hg2)
          go_roundw
          case rel => exact ⟨.inr (.inl ⟨rfl, by have := HO2.out; rw [Nat.zero_add, List.nil_append] at this; exact this⟩), HB2.out⟩
          case measure => simp [intOf]
        · have HO := hid ho
          clear ho
          go_wp2_with (at_builtin; refine wpList_append_own _ rfl _ _ 22 rfl w.heap.size 3 i0 (.int .i64 0) 1 8 Try.underlying22 hi hz0 hz1 hz2 rfl (by decide) _ d (ys.drop f) rfl HO.out ⟨g, 0, none⟩ f cap (ys.take f) rfl (by rw [List.length_take, HN.out]; omega) (news_at HCW.out (fun j u hu => by rw [List.getElem?_take] at hu; split at hu; (rw [Nat.zero_add]; exact hu); cases hu)) (fun u hu => H1.out u (List.mem_of_mem_take hu)) (by unfold maxLen; omega) (by omega) hB.size ?_; intro v' w2 ho2 hg2 _; have HO2 := hid ho2; have HB2 := hid (hB.grown hg2 hB.size (fun k e => (HO.out.lt k e).1)); clear ho2 hg2)
          go_roundw
          case rel => exact ⟨.inr (.inr ⟨rfl, by have := HO2.out; rw [hdn] at this; exact this⟩), HB2.out⟩
          case measure => simp [intOf]
        · have HO := hid ho
          clear ho
          go_wp2_with fail
          go_ret
          exact ⟨⟨_, rfl, HO.out⟩, hB⟩
end Go.Proofs.Ytechkkidebkadaa
