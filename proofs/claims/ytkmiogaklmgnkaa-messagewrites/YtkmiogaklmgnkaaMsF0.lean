/- Layer 5 (message): a message through a way: the kind without fields. -/
import Derived.Test.YtkmiogaklmgnkaaMsF
namespace Go.Proofs.Ytkmiogaklmgnkaa
open Go.RowKit Go.Shelf
set_option linter.unusedVariables false
set_option linter.unusedSimpArgs false
attribute [local go_sem ↓] Go.wp_at_zero Go.wp_at_succ
set_option maxRecDepth 100000 in
set_option maxHeartbeats 4000000 in
theorem carried0 {σ : Type} (W : Way σ) {s : σ} {S : Nat → Prop} (m : Msg) (p : Option Addr) (cap : Nat) (w : World) (h : W.At s S w) (hok : (carr m).All W.ok W.step s) (hm : MOk m) (hl : m.bytes.length ≤ 90000 ∨ W.tight) (ha : Arg w p m.bytes.length cap fun i => .int .u8 ((m.bytes.getD i 0 : Nat) : Int)) (hd : m.bytes.length ≠ 0 → ∀ k o, p = some ⟨k, o, none⟩ → ¬ S k) (hk : (W.step false s m.kind rKind).1 ≠ 2 ∧ (W.step false s m.kind rKind).1 ≠ 3 ∧ (W.step false s m.kind rKind).1 ≠ 5 ∧ (W.step false s m.kind rKind).1 ≠ 6 ∧ (W.step false s m.kind rKind).1 ≠ 7 ∧ (W.step false s m.kind rKind).1 ≠ 8 ∧ (W.step false s m.kind rKind).1 ≠ 9) :
    Calls Try.prog 25 #[.agg (msgC m (.slice p m.bytes.length cap)), .iface W.T (.pointer (some ⟨W.b, 0, none⟩))] w fun e w' => ∃ v, e = .returned (.agg (msgC ((carr m).run W.step s).1 v)) ∧ Row w' w.heap.size v ((carr m).run W.step s).1.bytes ∧ ∃ S', W.At ((carr m).run W.step s).2 S' w' ∧ Fr S w w' ∧ Sub w S S' ∧ ∀ k, v.ownBlock = some k → ¬ S' k := by
  obtain ⟨ok1, ok2⟩ := hok
  simp only [carr, Pg.run_ask] at *
  have c1 := fun S1 w1 (h : W.At s S1 w1) => fieldInt W false m.kind rKind w1 h ok1
  obtain ⟨s1, hs1⟩ : ∃ q, (W.step false s m.kind rKind).2 = q := ⟨_, rfl⟩
  obtain ⟨k, hke⟩ : ∃ q, (W.step false s m.kind rKind).1 = q := ⟨_, rfl⟩
  rw [hke, hs1] at c1 ok2 ⊢
  rw [hke] at hk
  clear hke hs1 ok1
  have hlt : ∀ k o, m.bytes.length ≠ 0 → p = some ⟨k, o, none⟩ → k < w.heap.size := fun k o h0 hp => by
    rcases ha.cells with e | ⟨b, o', hp', hlt, _⟩
    · exact (h0 e).elim
    · rw [hp] at hp'; cases hp'; exact hlt
  have G0 : Gn W S w (fun k => m.bytes.length ≠ 0 ∧ ∃ o, p = some ⟨k, o, none⟩) s w := ⟨S, h, Fr.refl _ _, fun _ h => .inl h, fun k hk => by obtain ⟨h0, o, hp⟩ := hk; exact ⟨hd h0 k o hp, hlt k o h0 hp⟩⟩
  clear h hd
  obtain ⟨hF, hFe⟩ : ∃ f, W.fv false = f := ⟨_, rfl⟩
  obtain ⟨hT, hTe⟩ : ∃ f, W.fv true = f := ⟨_, rfl⟩
  have HF := hid hFe; have HT := hid hTe
  rw [hFe] at c1
  unfold Way.fv at hFe hTe
  simp only [if_true, Bool.false_eq_true, if_false] at hFe hTe
  have hf : fieldsP m k = .ret (bare k) := by
    unfold fieldsP; rw [if_neg hk.1, if_neg hk.2.1, if_neg hk.2.2.2.1, if_neg hk.2.2.2.2.1, if_neg hk.2.2.1, if_neg hk.2.2.2.2.2.1, if_neg hk.2.2.2.2.2.2]
  rw [hf, Pg.run_ret]
  clear hf ok2
  unfold msgC
  go_enter Try.func25, Try.ntmps25
  go_wp2_with fail
  go_region
  go_wp2_with fail
  clear hFe hTe
  have hz1 : (w.alloc (.cells #[.int .i64 m.kind, .int .u16 m.seq, .int .u16 m.cmd.seq, .int .u8 m.cmd.but, .int .i8 m.cmd.dx, .int .i8 m.cmd.dy, .int .i64 m.cmd.tk, .int .u16 m.prov, .int .i64 m.id, .int .i64 m.shot, .int .i64 m.dir.x, .int .i64 m.dir.y, .int .i64 m.dir.z, .int .i64 m.why, .int .i64 m.pos.x, .int .i64 m.pos.y, .int .i64 m.pos.z, .int .i64 m.vel.x, .int .i64 m.vel.y, .int .i64 m.vel.z, .int .u32 m.tick, .int .u32 m.base, .slice p m.bytes.length cap] 40)).heap.size = w.heap.size + 1 := by simp
  have A0 := ((Bq.new w 40 #[.int .i64 m.kind, .int .u16 m.seq, .int .u16 m.cmd.seq, .int .u8 m.cmd.but, .int .i8 m.cmd.dx, .int .i8 m.cmd.dy, .int .i64 m.cmd.tk, .int .u16 m.prov, .int .i64 m.id, .int .i64 m.shot, .int .i64 m.dir.x, .int .i64 m.dir.y, .int .i64 m.dir.z, .int .i64 m.why, .int .i64 m.pos.x, .int .i64 m.pos.y, .int .i64 m.pos.z, .int .i64 m.vel.x, .int .i64 m.vel.y, .int .i64 m.vel.z, .int .u32 m.tick, .int .u32 m.base, .slice p m.bytes.length cap]).alloc (.cells #[.int .i64 0, .int .u16 0, .int .u16 0, .int .u8 0, .int .i8 0, .int .i8 0, .int .i64 0, .int .u16 0, .int .i64 0, .int .i64 0, .int .i64 0, .int .i64 0, .int .i64 0, .int .i64 0, .int .i64 0, .int .i64 0, .int .i64 0, .int .i64 0, .int .i64 0, .int .i64 0, .int .u32 0, .int .u32 0, .slice none 0 0] 40)).below (below_drewN _ 1)
  have A1 := (Bq.new' 40 #[.int .i64 0, .int .u16 0, .int .u16 0, .int .u8 0, .int .i8 0, .int .i8 0, .int .i64 0, .int .u16 0, .int .i64 0, .int .i64 0, .int .i64 0, .int .i64 0, .int .i64 0, .int .i64 0, .int .i64 0, .int .i64 0, .int .i64 0, .int .i64 0, .int .i64 0, .int .i64 0, .int .u32 0, .int .u32 0, .slice none 0 0] hz1).below (below_drewN _ 1)
  have G := (((G0.alloc (.cells #[.int .i64 m.kind, .int .u16 m.seq, .int .u16 m.cmd.seq, .int .u8 m.cmd.but, .int .i8 m.cmd.dx, .int .i8 m.cmd.dy, .int .i64 m.cmd.tk, .int .u16 m.prov, .int .i64 m.id, .int .i64 m.shot, .int .i64 m.dir.x, .int .i64 m.dir.y, .int .i64 m.dir.z, .int .i64 m.why, .int .i64 m.pos.x, .int .i64 m.pos.y, .int .i64 m.pos.z, .int .i64 m.vel.x, .int .i64 m.vel.y, .int .i64 m.vel.z, .int .u32 m.tick, .int .u32 m.base, .slice p m.bytes.length cap] 40)).alloc (.cells #[.int .i64 0, .int .u16 0, .int .u16 0, .int .u8 0, .int .i8 0, .int .i8 0, .int .i64 0, .int .u16 0, .int .i64 0, .int .i64 0, .int .i64 0, .int .i64 0, .int .i64 0, .int .i64 0, .int .i64 0, .int .i64 0, .int .i64 0, .int .i64 0, .int .i64 0, .int .i64 0, .int .u32 0, .int .u32 0, .slice none 0 0] 40)).mono (Y := fun k => (w.heap.size ≤ k ∧ k < w.heap.size + 2) ∨ (m.bytes.length ≠ 0 ∧ ∃ o, p = some ⟨k, o, none⟩)) (fun k hk => by
    rcases hk with hk | hk
    · by_cases e : k = w.heap.size
      · exact .inl (.inr e)
      · exact .inr (by rw [hz1]; omega)
    · exact .inl (.inl hk))).below (below_drewN _ 1)
  have HA := ha.keep (((((Below.refl w.heap.size w).alloc (Nat.le_refl _) (.cells #[.int .i64 m.kind, .int .u16 m.seq, .int .u16 m.cmd.seq, .int .u8 m.cmd.but, .int .i8 m.cmd.dx, .int .i8 m.cmd.dy, .int .i64 m.cmd.tk, .int .u16 m.prov, .int .i64 m.id, .int .i64 m.shot, .int .i64 m.dir.x, .int .i64 m.dir.y, .int .i64 m.dir.z, .int .i64 m.why, .int .i64 m.pos.x, .int .i64 m.pos.y, .int .i64 m.pos.z, .int .i64 m.vel.x, .int .i64 m.vel.y, .int .i64 m.vel.z, .int .u32 m.tick, .int .u32 m.base, .slice p m.bytes.length cap] 40))).alloc (by simp) (.cells #[.int .i64 0, .int .u16 0, .int .u16 0, .int .u8 0, .int .i8 0, .int .i8 0, .int .i64 0, .int .u16 0, .int .i64 0, .int .i64 0, .int .i64 0, .int .i64 0, .int .i64 0, .int .i64 0, .int .i64 0, .int .i64 0, .int .i64 0, .int .i64 0, .int .i64 0, .int .i64 0, .int .u32 0, .int .u32 0, .slice none 0 0] 40)).trans (below_drewN _ 1))
  clear hz1 G0 ha
  generalize hu0 : ((w.alloc (.cells #[.int .i64 m.kind, .int .u16 m.seq, .int .u16 m.cmd.seq, .int .u8 m.cmd.but, .int .i8 m.cmd.dx, .int .i8 m.cmd.dy, .int .i64 m.cmd.tk, .int .u16 m.prov, .int .i64 m.id, .int .i64 m.shot, .int .i64 m.dir.x, .int .i64 m.dir.y, .int .i64 m.dir.z, .int .i64 m.why, .int .i64 m.pos.x, .int .i64 m.pos.y, .int .i64 m.pos.z, .int .i64 m.vel.x, .int .i64 m.vel.y, .int .i64 m.vel.z, .int .u32 m.tick, .int .u32 m.base, .slice p m.bytes.length cap] 40)).alloc (.cells #[.int .i64 0, .int .u16 0, .int .u16 0, .int .u8 0, .int .i8 0, .int .i8 0, .int .i64 0, .int .u16 0, .int .i64 0, .int .i64 0, .int .i64 0, .int .i64 0, .int .i64 0, .int .i64 0, .int .i64 0, .int .i64 0, .int .i64 0, .int .i64 0, .int .i64 0, .int .i64 0, .int .u32 0, .int .u32 0, .slice none 0 0] 40)).drewN 1 = u0 at *
  have hu0' : ((w.alloc (.cells #[.int .i64 m.kind, .int .u16 m.seq, .int .u16 m.cmd.seq, .int .u8 m.cmd.but, .int .i8 m.cmd.dx, .int .i8 m.cmd.dy, .int .i64 m.cmd.tk, .int .u16 m.prov, .int .i64 m.id, .int .i64 m.shot, .int .i64 m.dir.x, .int .i64 m.dir.y, .int .i64 m.dir.z, .int .i64 m.why, .int .i64 m.pos.x, .int .i64 m.pos.y, .int .i64 m.pos.z, .int .i64 m.vel.x, .int .i64 m.vel.y, .int .i64 m.vel.z, .int .u32 m.tick, .int .u32 m.base, .slice p m.bytes.length cap] 40)).alloc (.cells #[.int .i64 0, .int .u16 0, .int .u16 0, .int .u8 0, .int .i8 0, .int .i8 0, .int .i64 0, .int .u16 0, .int .i64 0, .int .i64 0, .int .i64 0, .int .i64 0, .int .i64 0, .int .i64 0, .int .i64 0, .int .i64 0, .int .i64 0, .int .i64 0, .int .i64 0, .int .i64 0, .int .u32 0, .int .u32 0, .slice none 0 0] 40)).drew = u0 := hu0
  rw [hu0']
  clear hu0 hu0'
  refine (G.call (fun S1 h => c1 S1 _ h)).mono ?_
  rintro e u1 ⟨rfl, G', hk', hz⟩
  dsimp only
  have hszt := G'.size
  have HAa := HA.same hz (fun h0 k o hp => hk' k (.inr ⟨h0, o, hp⟩))
  replace A0 := (A0.same (hk' _ (.inl (by omega)))).alloc (.cells #[.int .i64 k, .int .u16 0, .int .u16 0, .int .u8 0, .int .i8 0, .int .i8 0, .int .i64 0, .int .u16 0, .int .i64 0, .int .i64 0, .int .i64 0, .int .i64 0, .int .i64 0, .int .i64 0, .int .i64 0, .int .i64 0, .int .i64 0, .int .i64 0, .int .i64 0, .int .i64 0, .int .u32 0, .int .u32 0, .slice none 0 0] 40)
  have U1 := hid (A1.same (hk' _ (.inl (by omega))))
  replace A1 := (A1.same (hk' _ (.inl (by omega)))).alloc (.cells #[.int .i64 k, .int .u16 0, .int .u16 0, .int .u8 0, .int .i8 0, .int .i8 0, .int .i64 0, .int .u16 0, .int .i64 0, .int .i64 0, .int .i64 0, .int .i64 0, .int .i64 0, .int .i64 0, .int .i64 0, .int .i64 0, .int .i64 0, .int .i64 0, .int .i64 0, .int .i64 0, .int .u32 0, .int .u32 0, .slice none 0 0] 40)
  have A2 := Bq.new u1 40 #[.int .i64 k, .int .u16 0, .int .u16 0, .int .u8 0, .int .i8 0, .int .i8 0, .int .i64 0, .int .u16 0, .int .i64 0, .int .i64 0, .int .i64 0, .int .i64 0, .int .i64 0, .int .i64 0, .int .i64 0, .int .i64 0, .int .i64 0, .int .i64 0, .int .i64 0, .int .i64 0, .int .u32 0, .int .u32 0, .slice none 0 0]
  replace G := (G'.alloc (.cells #[.int .i64 k, .int .u16 0, .int .u16 0, .int .u8 0, .int .i8 0, .int .i8 0, .int .i64 0, .int .u16 0, .int .i64 0, .int .i64 0, .int .i64 0, .int .i64 0, .int .i64 0, .int .i64 0, .int .i64 0, .int .i64 0, .int .i64 0, .int .i64 0, .int .i64 0, .int .i64 0, .int .u32 0, .int .u32 0, .slice none 0 0] 40))
  replace HA := HAa.keep ((Below.refl _ _).alloc (Nat.le_refl _) (.cells #[.int .i64 k, .int .u16 0, .int .u16 0, .int .u8 0, .int .i8 0, .int .i8 0, .int .i64 0, .int .u16 0, .int .i64 0, .int .i64 0, .int .i64 0, .int .i64 0, .int .i64 0, .int .i64 0, .int .i64 0, .int .i64 0, .int .i64 0, .int .i64 0, .int .i64 0, .int .i64 0, .int .u32 0, .int .u32 0, .slice none 0 0] 40))
  have hne : w.heap.size + 1 < u1.heap.size := G'.lt (.inl (by omega))
  clear G' hk' c1 HAa hz
  have HG := hid G; have H0 := hid A0; have H1 := hid A1; have H2 := hid A2; have HA' := hid HA
  clear G A0 A1 A2 HA
  have b2 : (k == 2) = false := by simp [hk.1]
  have b3 : (k == 3) = false := by simp [hk.2.1]
  have b5 : (k == 5) = false := by simp [hk.2.2.1]
  have b6 : (k == 6) = false := by simp [hk.2.2.2.1]
  have b7 : (k == 7) = false := by simp [hk.2.2.2.2.1]
  have b8 : (k == 8) = false := by simp [hk.2.2.2.2.2.1]
  have b9 : (k == 9) = false := by simp [hk.2.2.2.2.2.2]
  clear U1
  have t0 := H2.out.cell (i := 0) rfl
  have E2 := H2; have E1 := H1
  go_wp2_with (first | (refine wpList_store_row rfl 40 _ _ rfl u1.heap.size #[.int .i64 k, .int .u16 0, .int .u16 0, .int .u8 0, .int .i8 0, .int .i8 0, .int .i64 0, .int .u16 0, .int .i64 0, .int .i64 0, .int .i64 0, .int .i64 0, .int .i64 0, .int .i64 0, .int .i64 0, .int .i64 0, .int .i64 0, .int .i64 0, .int .i64 0, .int .i64 0, .int .u32 0, .int .u32 0, .slice none 0 0] rfl rfl 40 #[.int .i64 0, .int .u16 0, .int .u16 0, .int .u8 0, .int .i8 0, .int .i8 0, .int .i64 0, .int .u16 0, .int .i64 0, .int .i64 0, .int .i64 0, .int .i64 0, .int .i64 0, .int .i64 0, .int .i64 0, .int .i64 0, .int .i64 0, .int .i64 0, .int .i64 0, .int .i64 0, .int .u32 0, .int .u32 0, .slice none 0 0] (heap_alloc_new u1 _) size_msg rfl one23 ?_; rw [World.setRow_alloc_new]; generalize u1.alloc (.cells #[.int .i64 k, .int .u16 0, .int .u16 0, .int .u8 0, .int .i8 0, .int .i8 0, .int .i64 0, .int .u16 0, .int .i64 0, .int .i64 0, .int .i64 0, .int .i64 0, .int .i64 0, .int .i64 0, .int .i64 0, .int .i64 0, .int .i64 0, .int .i64 0, .int .i64 0, .int .i64 0, .int .u32 0, .int .u32 0, .slice none 0 0] 40) = x0 at *) | (refine wpList_load_row rfl 40 _ rfl u1.heap.size rfl 40 #[.int .i64 k, .int .u16 0, .int .u16 0, .int .u8 0, .int .i8 0, .int .i8 0, .int .i64 0, .int .u16 0, .int .i64 0, .int .i64 0, .int .i64 0, .int .i64 0, .int .i64 0, .int .i64 0, .int .i64 0, .int .i64 0, .int .i64 0, .int .i64 0, .int .i64 0, .int .i64 0, .int .u32 0, .int .u32 0, .slice none 0 0] (0, 0) _ E2.out.obj Try.underlying40 rfl size_msg ?_; refine wpList_store_row rfl 40 _ _ rfl (w.heap.size + 1) #[.int .i64 k, .int .u16 0, .int .u16 0, .int .u8 0, .int .i8 0, .int .i8 0, .int .i64 0, .int .u16 0, .int .i64 0, .int .i64 0, .int .i64 0, .int .i64 0, .int .i64 0, .int .i64 0, .int .i64 0, .int .i64 0, .int .i64 0, .int .i64 0, .int .i64 0, .int .i64 0, .int .u32 0, .int .u32 0, .slice none 0 0] rfl rfl 40 _ E1.out.obj size_msg rfl one23 ?_))
  clear t0 E2 E1
  have E := H1.out.setRow #[.int .i64 k, .int .u16 0, .int .u16 0, .int .u8 0, .int .i8 0, .int .i8 0, .int .i64 0, .int .u16 0, .int .i64 0, .int .i64 0, .int .i64 0, .int .i64 0, .int .i64 0, .int .i64 0, .int .i64 0, .int .i64 0, .int .i64 0, .int .i64 0, .int .i64 0, .int .i64 0, .int .u32 0, .int .u32 0, .slice none 0 0]
  have GE := hid (HG.out.setRow (B := w.heap.size + 1) (.inl (.inl (by omega))) (by omega) #[.int .i64 k, .int .u16 0, .int .u16 0, .int .u8 0, .int .i8 0, .int .i8 0, .int .i64 0, .int .u16 0, .int .i64 0, .int .i64 0, .int .i64 0, .int .i64 0, .int .i64 0, .int .i64 0, .int .i64 0, .int .i64 0, .int .i64 0, .int .i64 0, .int .i64 0, .int .i64 0, .int .u32 0, .int .u32 0, .slice none 0 0])
  clear HG H0 H1 H2 HA'
  refine bodyPost_ret (v := .agg #[.int .i64 k, .int .u16 0, .int .u16 0, .int .u8 0, .int .i8 0, .int .i8 0, .int .i64 0, .int .u16 0, .int .i64 0, .int .i64 0, .int .i64 0, .int .i64 0, .int .i64 0, .int .i64 0, .int .i64 0, .int .i64 0, .int .i64 0, .int .i64 0, .int .i64 0, .int .i64 0, .int .u32 0, .int .u32 0, .slice none 0 0]) ?hres ?hdef ?hend
  case hres => exact results_cell_row rfl _ _ (w.heap.size + 1) 40 #[.int .i64 k, .int .u16 0, .int .u16 0, .int .u8 0, .int .i8 0, .int .i8 0, .int .i64 0, .int .u16 0, .int .i64 0, .int .i64 0, .int .i64 0, .int .i64 0, .int .i64 0, .int .i64 0, .int .i64 0, .int .i64 0, .int .i64 0, .int .i64 0, .int .i64 0, .int .i64 0, .int .u32 0, .int .u32 0, .slice none 0 0] (0, 0) _ rfl E.obj Try.underlying40 rfl size_msg
  case hdef => rfl
  obtain ⟨S', g1, g2, g3, g4⟩ := GE.out
  exact ⟨.slice none 0 0, rfl, Row.nil _ _, S', g1, g2, g3, fun k hk => by cases hk⟩
end Go.Proofs.Ytkmiogaklmgnkaa
