/- Layer 3 (bits): how writers and readers lie in memory; Clone, Bytes, NewReader, left, counted. -/
import Derived.Test.YtkmiogaklmgnkaaBtA
import Derived.Test.YtkmiogaklmgnkaaBtM
import Derived.Lib.SliceRun
namespace Go.Proofs.Ytkmiogaklmgnkaa
open Go.RowKit
set_option linter.unusedVariables false
attribute [local go_sem ↓] Go.wp_at_zero Go.wp_at_succ

def u8s (ys : List Nat) : List Value := ys.map fun (y : Nat) => .int .u8 (y : Int)
theorem u8s_length (ys : List Nat) : (u8s ys).length = ys.length := by simp [u8s]
theorem u8s_get (ys : List Nat) (i : Nat) (h : i < (u8s ys).length) : (u8s ys)[i] = .int .u8 ((ys.getD i 0 : Nat) : Int) := by
  have h' : i < ys.length := by rwa [u8s_length] at h
  simp [u8s, h']
theorem u8s_one (ys : List Nat) : ∀ u ∈ u8s ys, u.oneCell' = true := by
  intro u hu; obtain ⟨y, _, rfl⟩ := List.mem_map.1 hu; rfl
theorem u8s_append (ys zs : List Nat) : u8s (ys ++ zs) = u8s ys ++ u8s zs := by simp [u8s]
theorem u8s_set (ys : List Nat) (i y : Nat) : u8s (ys.set i y) = (u8s ys).set i (.int .u8 (y : Int)) := by simp [u8s, List.map_set]
/-- A box of two fields: a row of bytes of its own, and a number; all of it within S. -/
structure Bx (T : TypeId) (w : World) (S : Nat → Prop) (b : Nat) (ys : List Nat) (f : Int) (v : Value) : Prop where
  obj : w.heap[b]? = some (.cells #[v, .int .i64 f] T (0, 0))
  own : w.ownsRow 0 5 1 v ys.length (u8s ys)
  inb : S b
  inr : ∀ k, v.ownBlock = some k → S k ∧ k ≠ b
  lt : ∀ k, S k → k < w.heap.size
theorem Bx.keep {T : TypeId} {w w' : World} {S S' : Nat → Prop} {b : Nat} {ys : List Nat} {f : Int} {v : Value} (h : Bx T w S b ys f v) (hf : Fr S' w w') (hd : ∀ k, S k → ¬ S' k) : Bx T w' S b ys f v := by
  refine ⟨?_, ?_, h.inb, h.inr, fun k hk => Nat.lt_of_lt_of_le (h.lt k hk) hf.size⟩
  · rw [hf.block b (h.lt b h.inb) (hd b h.inb)]; exact h.obj
  · refine ⟨h.own.1, ?_⟩
    rcases h.own.2 with hn | ⟨g, cap, cur, hv, hb, hg, r⟩
    · exact .inl hn
    · refine .inr ⟨g, cap, cur, hv, hb, ?_, r⟩
      have := (h.inr g (by rw [hv]; rfl)).1
      rw [hf.block g (h.lt g this) (hd g this)]; exact hg
theorem Bx.keepC {T : TypeId} {w w' : World} {S X : Nat → Prop} {b : Nat} {ys : List Nat} {f : Int} {v : Value} (h : Bx T w S b ys f v) (hf : Kc X w w') (hd : ∀ k, S k → ¬ X k) : Bx T w' S b ys f v := by
  refine ⟨hf.same b _ h.obj rfl (hd b h.inb), ?_, h.inb, h.inr, fun k hk => Nat.lt_of_lt_of_le (h.lt k hk) hf.size⟩
  refine ⟨h.own.1, ?_⟩
  rcases h.own.2 with hn | ⟨g, cap, cur, hv, hb, hg, r⟩
  · exact .inl hn
  · exact .inr ⟨g, cap, cur, hv, hb, hf.same g _ hg rfl (hd g (h.inr g (by rw [hv]; rfl)).1), r⟩
theorem Bx.below {T : TypeId} {w w' : World} {S : Nat → Prop} {b : Nat} {ys : List Nat} {f : Int} {v : Value} (h : Bx T w S b ys f v) (hf : Below w.heap.size w w') : Bx T w' S b ys f v :=
  h.keep (S' := fun _ => False) (Fr.of_below _ hf) (fun _ _ e => e)
theorem Bx.cells {T : TypeId} {w : World} {S : Nat → Prop} {b : Nat} {ys : List Nat} {f : Int} {v : Value} (h : Bx T w S b ys f v) :
    w.cell? ⟨b, 0, none⟩ = some v ∧ w.cell? ⟨b, 1, none⟩ = some (.int .i64 f) ∧ b < w.heap.size := by
  refine ⟨?_, ?_, h.lt b h.inb⟩ <;> rw [cell_of_row w b _ _ T (0, 0) h.obj] <;> rfl
theorem Bx.thaw {T : TypeId} {w : World} {S : Nat → Prop} {b : Nat} {ys : List Nat} {f : Int} {v : Value} (h : Bx T w S b ys f v) (i : Nat) : w.frozen? ⟨b, i, none⟩ = false := by
  simp [World.frozen?, h.obj]
theorem Bx.form {T : TypeId} {w : World} {S : Nat → Prop} {b : Nat} {ys : List Nat} {f : Int} {v : Value} (h : Bx T w S b ys f v) :
    ∃ a cap, v = .slice a ys.length cap ∧ ys.length ≤ cap ∧ cap ≤ maxLen := by
  rcases h.own.2 with ⟨rfl, hl⟩ | ⟨g, cap, cur, rfl, _, _, h1, h2, _⟩
  · exact ⟨none, 0, by rw [hl], by omega, by unfold maxLen; omega⟩
  · exact ⟨_, cap, rfl, h1, h2⟩
theorem Bx.at {T : TypeId} {w : World} {S : Nat → Prop} {b : Nat} {ys : List Nat} {f : Int} {v : Value} (h : Bx T w S b ys f v) {j : Nat} (hj : j < ys.length) :
    ∃ g cap, v = .slice (some ⟨g, 0, none⟩) ys.length cap ∧ ys.length ≤ cap ∧ cap ≤ maxLen ∧ g ≠ b ∧ S g ∧ g < w.heap.size ∧ (∀ i, i < ys.length → w.cell? ⟨g, i, none⟩ = some (.int .u8 ((ys.getD i 0 : Nat) : Int))) ∧ (∀ i, i < ys.length → w.frozen? ⟨g, i, none⟩ = false) := by
  rcases h.own.2 with ⟨rfl, hl⟩ | ⟨g, cap, cur, rfl, _, hg, h1, h2, h3, h4⟩
  · omega
  · have hr := h.inr g rfl
    refine ⟨g, cap, rfl, h1, h2, hr.2, hr.1, h.lt g hr.1, fun i hi => ?_, fun i hi => ?_⟩
    · rw [cell_of_row w g i cur 5 (0, 0) hg]
      have hi' : i < ys.length * 1 := by omega
      have : (u8s ys)[i]? = cur.toList[i]? := by rw [← h4, List.getElem?_take, if_pos hi']
      rw [List.getElem?_eq_getElem (by rw [u8s_length]; exact hi), u8s_get] at this
      simpa using this.symm
    · simp [World.frozen?, hg]
/-- Its row as a slice that may be handed on. -/
theorem Bx.arg {T : TypeId} {w : World} {S : Nat → Prop} {b : Nat} {ys : List Nat} {f : Int} {v : Value} (h : Bx T w S b ys f v) : ∃ p cap, v = .slice p ys.length cap ∧ Arg w p ys.length cap fun i => .int .u8 ((ys.getD i 0 : Nat) : Int) := by
  obtain ⟨a, cap, rfl, h1, h2⟩ := h.form
  by_cases h0 : ys.length = 0
  · exact ⟨a, cap, rfl, h1, h2, .inl h0⟩
  · obtain ⟨g, cap', hv, _, _, _, _, hgl, hc, _⟩ := h.at (j := 0) (by omega)
    cases hv
    exact ⟨_, cap, rfl, h1, h2, .inr ⟨g, 0, rfl, hgl, fun i hi => by rw [Nat.zero_add]; exact hc i hi⟩⟩
/-- A row of bytes that is new, and one's own. -/
structure Row (w : World) (B : Nat) (v : Value) (ys : List Nat) : Prop where
  own : w.ownsRow B 5 1 v ys.length (u8s ys)
theorem Row.base {w : World} {B C : Nat} {v : Value} {ys : List Nat} (h : Row w B v ys) (hC : C ≤ B) : Row w C v ys := by
  refine ⟨h.own.1, ?_⟩
  rcases h.own.2 with hn | ⟨g, cap, cur, hv, hb, r⟩
  · exact .inl hn
  · exact .inr ⟨g, cap, cur, hv, Nat.le_trans hC hb, r⟩
theorem Row.fr {w w' : World} {B : Nat} {S : Nat → Prop} {v : Value} {ys : List Nat} (h : Row w B v ys) (hf : Fr S w w') (hS : ∀ k, S k → k < B) : Row w' B v ys := by
  refine ⟨h.own.1, ?_⟩
  rcases h.own.2 with hn | ⟨g, cap, cur, hv, hb, hg, r⟩
  · exact .inl hn
  · refine .inr ⟨g, cap, cur, hv, hb, ?_, r⟩
    rw [hf.block g (Array.getElem?_eq_some_iff.1 hg).1 (fun e => by have := hS g e; omega)]; exact hg
theorem Row.below {w w' : World} {B : Nat} {v : Value} {ys : List Nat} (h : Row w B v ys) (hf : Below w.heap.size w w') : Row w' B v ys := h.fr (S := fun _ => False) (Fr.of_below _ hf) (fun _ e => e.elim)
theorem Row.arg {w : World} {B : Nat} {v : Value} {ys : List Nat} (h : Row w B v ys) : ∃ p cap, v = .slice p ys.length cap ∧ (Arg w p ys.length cap fun i => .int .u8 ((ys.getD i 0 : Nat) : Int)) := by
  rcases h.own.2 with ⟨rfl, hl⟩ | ⟨g, cap, cur, rfl, hb, hg, h1, h2, h3, h4⟩
  · exact ⟨none, 0, by rw [hl], by omega, by unfold maxLen; omega, .inl hl⟩
  · refine ⟨_, cap, rfl, h1, h2, .inr ⟨g, 0, rfl, (Array.getElem?_eq_some_iff.1 hg).1, fun i hi => ?_⟩⟩
    rw [Nat.zero_add, cell_of_row w g i cur 5 (0, 0) hg]
    have hi' : i < ys.length * 1 := by omega
    have : (u8s ys)[i]? = cur.toList[i]? := by rw [← h4, List.getElem?_take, if_pos hi']
    rw [List.getElem?_eq_getElem (by rw [u8s_length]; exact hi), u8s_get] at this
    simpa using this.symm

/-- How many bits are meant. -/
def cnt (x : Int) : Nat := (max 0 (min x 64)).toNat
theorem cnt_le (x : Int) : cnt x ≤ 64 := by unfold cnt; omega
theorem cnt_nat {c : Nat} (h : c ≤ 64) : cnt (c : Int) = c := by unfold cnt; omega
theorem counted (x : Int) (w : World) :
    Calls Try.prog 66 #[.int .i64 x] w fun e w' => e = .returned (.int .i64 (cnt x : Nat)) ∧ w' = w := by
  go_enter Try.func66, Try.ntmps66
  go_wp2
  all_goals go_ret
  all_goals exact ⟨ret_int (by unfold cnt; omega), rfl⟩
theorem info_u8 : (Try.prog.info? 5).map (fun i => (i.zero, i.size, i.bytes)) = some (some (.int .u8 0), 1, 1) := by kernel_rfl
theorem own_empty (w : World) : (w.alloc (.cells #[] 5)).ownsRow w.heap.size 5 1 (.slice (some ⟨w.heap.size, 0, none⟩) 0 0) 0 [] :=
  ⟨rfl, .inr ⟨w.heap.size, 0, #[], rfl, Nat.le_refl _, heap_alloc_new w _, Nat.le_refl _, by unfold maxLen; omega, by simp, rfl⟩⟩
theorem eq_nil (p : Option Addr) (n c : Nat) (w : World) : (binOp .eql 25 (.slice p n c) (.slice none 0 0)).run Try.prog w = .ok (.bool p.isNone) w :=
  Lib.run_eql_slice_nil w _ _ p n c 0 0 Try.underlying25
theorem grown_below {w w1 w2 : World} {r : Option Nat} (hb : Below w.heap.size w w1) (hg : w1.grownBy w2 r) (hr : ∀ k, r = some k → w.heap.size ≤ k) : Below w.heap.size w w2 :=
  ⟨hg.os.trans hb.os, hg.tape.trans hb.tape, hg.output.trans hb.output, Nat.le_trans hb.size hg.size, fun i hi => (hg.block i (Nat.lt_of_lt_of_le hi hb.size) (fun e => by have := hr i e.symm; omega)).trans (hb.block i hi)⟩
set_option maxRecDepth 100000 in
theorem clone (p : Option Addr) (cap : Nat) (ys : List Nat) (w : World) (h : Arg w p ys.length cap fun i => .int .u8 ((ys.getD i 0 : Nat) : Int)) (hl : ys.length ≤ 100000) :
    Calls Try.prog 51 #[.slice p ys.length cap] w fun e w' => (∃ v, e = .returned v ∧ Row w' w.heap.size v ys) ∧ Below w.heap.size w w' := by
  have hle := h.le; have hmost := h.most
  unfold maxLen at hmost
  have hnil := eq_nil p ys.length cap
  cases p with
  | none =>
    have h0 : ys = [] := by
      rcases h.cells with h0 | ⟨_, _, h0, _⟩
      · exact List.length_eq_zero_iff.1 h0
      · cases h0
    subst h0
    rw [List.length_nil] at hnil ⊢
    clear h hle
    go_enter Try.func51, Try.ntmps51
    go_wp2
    go_ret
    exact ⟨⟨_, rfl, ⟨World.ownsRow_nil _ _ _ _⟩⟩, Below.refl _ _⟩
  | some ad =>
    obtain ⟨i0, hi, hz0, hz1, hz2⟩ := info_parts info_u8
    by_cases h0 : ys.length = 0
    · have hy : ys = [] := List.length_eq_zero_iff.1 h0
      subst hy
      rw [List.length_nil] at hnil ⊢
      clear h hle h0
      go_enter Try.func51, Try.ntmps51
      go_wp2
      go_ret
      exact ⟨⟨_, rfl, ⟨own_empty w⟩⟩, (Below.refl _ _).alloc (Nat.le_refl _) _⟩
    · obtain ⟨b, o, hp, hb, hc⟩ := h.at (i := 0) (by omega)
      cases hp
      have H := hid hc
      clear hc h
      go_enter Try.func51, Try.ntmps51
      go_wp2_with (at_builtin; refine wpList_append_lies _ rfl _ _ 25 rfl w.heap.size 5 i0 (.int .u8 0) 1 1 Try.underlying25 hi hz0 hz1 hz2 rfl (by decide) _ 0 [] rfl (own_empty w) ⟨b, o, none⟩ ys.length cap (u8s ys) rfl (by rw [u8s_length]; omega) ?_ (u8s_one ys) (by omega) (by unfold maxLen; omega) (by omega) (by simp) (w.heap.size + 1) (by simp) ?_)
      · intro j u hu
        obtain ⟨hj, rfl⟩ := List.getElem?_eq_some_iff.1 hu
        rw [u8s_get, Addr.add_lit]
        exact Lib.cell?_alloc_some _ (H.out j (by rwa [u8s_length] at hj))
      · intro g cap' w1 hown hgrow hat hglt
        have hb1 := grown_below ((Below.refl w.heap.size w).alloc (Nat.le_refl _) _) hgrow (by intro k hk; cases hk; exact Nat.le_refl _)
        have HO := hid hown
        clear hown hgrow hat hglt
        go_wp2
        go_ret
        refine ⟨⟨_, rfl, ⟨?_⟩⟩, hb1⟩
        exact HO.out
/-- A writer that has these bits. -/
def WrAt (w : World) (S : Nat → Prop) (b : Nat) (bs : List Bool) : Prop := ∃ (ys : List Nat) (f : Nat) (v : Value), Bx 59 w S b ys f v ∧ Packs ys f bs
/-- A reader that has these bits left. -/
def RdAt (w : World) (S : Nat → Prop) (b : Nat) (rs : List Bool) : Prop := ∃ (ys : List Nat) (t : Nat) (v : Value), Bx 105 w S b ys t v ∧ rs = (unpack ys).drop t ∧ t ≤ 8 * ys.length ∧ (∀ y ∈ ys, y < 256) ∧ ys.length ≤ 100000
theorem WrAt.keep {w w' : World} {S S' : Nat → Prop} {b : Nat} {bs : List Bool} (h : WrAt w S b bs) (hf : Fr S' w w') (hd : ∀ k, S k → ¬ S' k) : WrAt w' S b bs := by
  obtain ⟨ys, f, v, hb, r⟩ := h; exact ⟨ys, f, v, hb.keep hf hd, r⟩
theorem WrAt.below {w w' : World} {S : Nat → Prop} {b : Nat} {bs : List Bool} (h : WrAt w S b bs) (hf : Below w.heap.size w w') : WrAt w' S b bs := by
  obtain ⟨ys, f, v, hb, r⟩ := h; exact ⟨ys, f, v, hb.below hf, r⟩
theorem WrAt.lt {w : World} {S : Nat → Prop} {b : Nat} {bs : List Bool} (h : WrAt w S b bs) : ∀ k, S k → k < w.heap.size := by
  obtain ⟨ys, f, v, hb, r⟩ := h; exact hb.lt
theorem RdAt.keep {w w' : World} {S S' : Nat → Prop} {b : Nat} {bs : List Bool} (h : RdAt w S b bs) (hf : Fr S' w w') (hd : ∀ k, S k → ¬ S' k) : RdAt w' S b bs := by
  obtain ⟨ys, f, v, hb, r⟩ := h; exact ⟨ys, f, v, hb.keep hf hd, r⟩
theorem RdAt.below {w w' : World} {S : Nat → Prop} {b : Nat} {bs : List Bool} (h : RdAt w S b bs) (hf : Below w.heap.size w w') : RdAt w' S b bs := by
  obtain ⟨ys, f, v, hb, r⟩ := h; exact ⟨ys, f, v, hb.below hf, r⟩
theorem RdAt.lt {w : World} {S : Nat → Prop} {b : Nat} {bs : List Bool} (h : RdAt w S b bs) : ∀ k, S k → k < w.heap.size := by
  obtain ⟨ys, f, v, hb, r⟩ := h; exact hb.lt
theorem writer_new (w : World) : WrAt (w.alloc (.cells #[.slice none 0 0, .int .i64 0] 59)) (fun k => k = w.heap.size) w.heap.size [] :=
  ⟨[], 0, .slice none 0 0, ⟨heap_alloc_new w _, World.ownsRow_nil _ _ _ _, rfl, by simp [Value.ownBlock], by simp⟩, packs_nil⟩
theorem bytesW (S : Nat → Prop) (b : Nat) (bs : List Bool) (w : World) (h : WrAt w S b bs) (hl : bs.length ≤ 700000) :
    Calls Try.prog 26 #[.pointer (some ⟨b, 0, none⟩)] w fun e w' => (∃ v ys f, e = .returned v ∧ Row w' w.heap.size v ys ∧ Packs ys f bs) ∧ Below w.heap.size w w' := by
  obtain ⟨ys, f, v, hb, hp⟩ := h
  obtain ⟨c0, c1, hlt⟩ := hb.cells
  obtain ⟨p, cap, rfl, ha⟩ := hb.arg
  have hcl := clone p cap ys w ha (by have := hp.len; have := hp.few; omega)
  have HP := hid hp
  clear hb ha hp
  go_enter Try.func26, Try.ntmps26
  go_wp2_with (go_at_call 51; refine hcl.mono ?_; rintro e w' ⟨⟨v, rfl, hr⟩, hB⟩; have HR := hid hr; clear hr)
  go_ret
  exact ⟨⟨_, ys, f, rfl, HR.out, HP.out⟩, hB⟩
theorem rd_new {w w1 : World} {v : Value} {ys : List Nat} (hr : Row w1 w.heap.size v ys) (hB : Below w.heap.size w w1) (hy : ∀ y ∈ ys, y < 256) (hl : ys.length ≤ 100000) :
    RdAt (w1.alloc (.cells #[v, .int .i64 0] 105)) (fun k => w.heap.size ≤ k ∧ k ≤ w1.heap.size) w1.heap.size (unpack ys) := by
  refine ⟨ys, 0, v, ⟨heap_alloc_new w1 _, ?_, ⟨hB.size, Nat.le_refl _⟩, fun k hk => ?_, fun k hk => by simp; omega⟩, by simp, Nat.zero_le _, hy, hl⟩
  · exact (((hr.base (Nat.zero_le _)).below ((Below.refl _ w1).alloc (Nat.le_refl _) _))).own
  · have := hr.own.lt k hk
    exact ⟨⟨this.1, by omega⟩, by omega⟩
theorem newReader (p : Option Addr) (cap : Nat) (ys : List Nat) (w : World) (h : Arg w p ys.length cap fun i => .int .u8 ((ys.getD i 0 : Nat) : Int)) (hy : ∀ y ∈ ys, y < 256) (hl : ys.length ≤ 100000) :
    Calls Try.prog 32 #[.slice p ys.length cap] w fun e w' => (∃ b S, e = .returned (.pointer (some ⟨b, 0, none⟩)) ∧ RdAt w' S b (unpack ys) ∧ From w.heap.size S) ∧ Below w.heap.size w w' := by
  have hcl := clone p cap ys w h hl
  clear h
  go_enter Try.func32, Try.ntmps32
  go_wp2_with (go_at_call 51; refine hcl.mono ?_; rintro e w' ⟨⟨v, rfl, hr⟩, hB⟩; obtain ⟨p', cap', rfl, _⟩ := hr.arg; have HR := hid hr; clear hr)
  go_ret
  exact ⟨⟨_, _, rfl, rd_new HR.out hB hy hl, ⟨fun k hk => hk.1⟩⟩, hB.alloc hB.size _⟩
theorem leftR (S : Nat → Prop) (b : Nat) (rs : List Bool) (w : World) (h : RdAt w S b rs) :
    Calls Try.prog 58 #[.pointer (some ⟨b, 0, none⟩)] w fun e w' => e = .returned (.int .i64 (rs.length : Nat)) ∧ ∃ n, w' = w.drewN n := by
  obtain ⟨ys, t, v, hb, rfl, ht, hy, hl⟩ := h
  obtain ⟨c0, c1, hlt⟩ := hb.cells
  obtain ⟨p, cap, rfl, _, _⟩ := hb.form
  rw [List.length_drop, unpack_length]
  clear hb
  go_enter Try.func58, Try.ntmps58
  go_wp2_with fail
  go_quiet (fail)
  go_wp2
  go_ret
  exact ⟨ret_int (by omega), _, rfl⟩
end Go.Proofs.Ytkmiogaklmgnkaa
