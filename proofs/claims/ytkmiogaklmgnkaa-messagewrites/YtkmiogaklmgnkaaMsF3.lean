/- Layer 5 (message): a message through a way: the kind 3. -/
import Derived.Test.YtkmiogaklmgnkaaMsF
namespace Go.Proofs.Ytkmiogaklmgnkaa
open Go.RowKit Go.Shelf
set_option linter.unusedVariables false
set_option linter.unusedSimpArgs false
attribute [local go_sem ↓] Go.wp_at_zero Go.wp_at_succ
set_option maxRecDepth 100000 in
set_option maxHeartbeats 4000000 in
theorem carried3 {σ : Type} (W : Way σ) {s : σ} {S : Nat → Prop} (m : Msg) (p : Option Addr) (cap : Nat) (w : World) (h : W.At s S w) (hok : (carr m).All W.ok W.step s) (hm : MOk m) (hl : m.bytes.length ≤ 90000 ∨ W.tight) (ha : Arg w p m.bytes.length cap fun i => .int .u8 ((m.bytes.getD i 0 : Nat) : Int)) (hd : m.bytes.length ≠ 0 → ∀ k o, p = some ⟨k, o, none⟩ → ¬ S k) (hk : (W.step false s m.kind rKind).1 = 3) :
    Calls Try.prog 25 #[.agg (msgC m (.slice p m.bytes.length cap)), .iface W.T (.pointer (some ⟨W.b, 0, none⟩))] w fun e w' => ∃ v, e = .returned (.agg (msgC ((carr m).run W.step s).1 v)) ∧ Row w' w.heap.size v ((carr m).run W.step s).1.bytes ∧ ∃ S', W.At ((carr m).run W.step s).2 S' w' ∧ Fr S w w' ∧ Sub w S S' ∧ ∀ k, v.ownBlock = some k → ¬ S' k := by
  obtain ⟨ok1, ok2⟩ := hok
  simp only [carr, Pg.run_ask] at *
  have c1 := fun S1 w1 (h : W.At s S1 w1) => fieldInt W false m.kind rKind w1 h ok1
  obtain ⟨s1, hs1⟩ : ∃ q, (W.step false s m.kind rKind).2 = q := ⟨_, rfl⟩
  rw [hk, hs1] at c1 ok2 ⊢
  clear hk hs1 ok1
  have hlt : ∀ k o, m.bytes.length ≠ 0 → p = some ⟨k, o, none⟩ → k < w.heap.size := fun k o h0 hp => by
    rcases ha.cells with e | ⟨b, o', hp', hlt, _⟩
    · exact (h0 e).elim
    · rw [hp] at hp'; cases hp'; exact hlt
  have G0 : Gn W S w (fun k => m.bytes.length ≠ 0 ∧ ∃ o, p = some ⟨k, o, none⟩) s w := ⟨S, h, Fr.refl _ _, fun _ h => .inl h, fun k hk => by obtain ⟨h0, o, hp⟩ := hk; exact ⟨hd h0 k o hp, hlt k o h0 hp⟩⟩
  clear h hd
  obtain ⟨hF, hFe⟩ : ∃ f, W.fv false = f := ⟨_, rfl⟩
  obtain ⟨hT, hTe⟩ : ∃ f, W.fv true = f := ⟨_, rfl⟩
  have HF := hid hFe; have HT := hid hTe
  rw [hFe] at c1
  unfold Way.fv at hFe hTe
  simp only [if_true, Bool.false_eq_true, if_false] at hFe hTe
  simp only [fieldsP, Pg.bind, Pg.run_ask, Pg.run_bind, Pg.run_ret, Pg.All, Pg.all_bind, reduceIte, show ¬ (3 : Int) = 2 by decide] at ok2 ⊢
  obtain ⟨k1, k2, k3, _⟩ := ok2
  have d1 := fun S1 w1 (h : W.At s1 S1 w1) => fieldU16 W false m.prov (uns 16) w1 h k1 hm.prov (by decide)
  obtain ⟨q1, hq1⟩ : ∃ q, (W.step false s1 m.prov (uns 16)).1 = q := ⟨_, rfl⟩
  obtain ⟨z1, hz1⟩ : ∃ q, (W.step false s1 m.prov (uns 16)).2 = q := ⟨_, rfl⟩
  simp only [hq1, hz1] at *
  clear hq1 hz1
  rw [HF.out] at d1
  have d2 := fun S1 w1 (h : W.At z1 S1 w1) => fieldInt W false m.shot rShot w1 h k2 
  obtain ⟨q2, hq2⟩ : ∃ q, (W.step false z1 m.shot rShot).1 = q := ⟨_, rfl⟩
  obtain ⟨z2, hz2⟩ : ∃ q, (W.step false z1 m.shot rShot).2 = q := ⟨_, rfl⟩
  simp only [hq2, hz2] at *
  clear hq2 hz2
  rw [HF.out] at d2
  have d3 := fun S1 w1 (h : W.At z2 S1 w1) => vecF W m.dir rDir w1 h k3
  obtain ⟨q3, hq3⟩ : ∃ q, ((vecP m.dir rDir).run W.step z2).1 = q := ⟨_, rfl⟩
  obtain ⟨z3, hz3⟩ : ∃ q, ((vecP m.dir rDir).run W.step z2).2 = q := ⟨_, rfl⟩
  simp only [hq3, hz3] at *
  clear hq3 hz3
  unfold vecV at d3
  rw [HT.out] at d3
  have U16 := unsignedF 16 (by simp)
  unfold msgC
  go_enter Try.func25, Try.ntmps25
  go_wp2_with fail
  go_region
  go_wp2_with fail
  clear hFe hTe
  have hz1 : (w.alloc (.cells #[.int .i64 m.kind, .int .u16 m.seq, .int .u16 m.cmd.seq, .int .u8 m.cmd.but, .int .i8 m.cmd.dx, .int .i8 m.cmd.dy, .int .i64 m.cmd.tk, .int .u16 m.prov, .int .i64 m.id, .int .i64 m.shot, .int .i64 m.dir.x, .int .i64 m.dir.y, .int .i64 m.dir.z, .int .i64 m.why, .int .i64 m.pos.x, .int .i64 m.pos.y, .int .i64 m.pos.z, .int .i64 m.vel.x, .int .i64 m.vel.y, .int .i64 m.vel.z, .int .u32 m.tick, .int .u32 m.base, .slice p m.bytes.length cap] 40)).heap.size = w.heap.size + 1 := by simp
  have A0 := ((Bq.new w 40 #[.int .i64 m.kind, .int .u16 m.seq, .int .u16 m.cmd.seq, .int .u8 m.cmd.but, .int .i8 m.cmd.dx, .int .i8 m.cmd.dy, .int .i64 m.cmd.tk, .int .u16 m.prov, .int .i64 m.id, .int .i64 m.shot, .int .i64 m.dir.x, .int .i64 m.dir.y, .int .i64 m.dir.z, .int .i64 m.why, .int .i64 m.pos.x, .int .i64 m.pos.y, .int .i64 m.pos.z, .int .i64 m.vel.x, .int .i64 m.vel.y, .int .i64 m.vel.z, .int .u32 m.tick, .int .u32 m.base, .slice p m.bytes.length cap]).alloc (.cells #[.int .i64 0, .int .u16 0, .int .u16 0, .int .u8 0, .int .i8 0, .int .i8 0, .int .i64 0, .int .u16 0, .int .i64 0, .int .i64 0, .int .i64 0, .int .i64 0, .int .i64 0, .int .i64 0, .int .i64 0, .int .i64 0, .int .i64 0, .int .i64 0, .int .i64 0, .int .i64 0, .int .u32 0, .int .u32 0, .slice none 0 0] 40)).below (below_drewN _ 1)
  have A1 := (Bq.new' 40 #[.int .i64 0, .int .u16 0, .int .u16 0, .int .u8 0, .int .i8 0, .int .i8 0, .int .i64 0, .int .u16 0, .int .i64 0, .int .i64 0, .int .i64 0, .int .i64 0, .int .i64 0, .int .i64 0, .int .i64 0, .int .i64 0, .int .i64 0, .int .i64 0, .int .i64 0, .int .i64 0, .int .u32 0, .int .u32 0, .slice none 0 0] hz1).below (below_drewN _ 1)
  have G := (((G0.alloc (.cells #[.int .i64 m.kind, .int .u16 m.seq, .int .u16 m.cmd.seq, .int .u8 m.cmd.but, .int .i8 m.cmd.dx, .int .i8 m.cmd.dy, .int .i64 m.cmd.tk, .int .u16 m.prov, .int .i64 m.id, .int .i64 m.shot, .int .i64 m.dir.x, .int .i64 m.dir.y, .int .i64 m.dir.z, .int .i64 m.why, .int .i64 m.pos.x, .int .i64 m.pos.y, .int .i64 m.pos.z, .int .i64 m.vel.x, .int .i64 m.vel.y, .int .i64 m.vel.z, .int .u32 m.tick, .int .u32 m.base, .slice p m.bytes.length cap] 40)).alloc (.cells #[.int .i64 0, .int .u16 0, .int .u16 0, .int .u8 0, .int .i8 0, .int .i8 0, .int .i64 0, .int .u16 0, .int .i64 0, .int .i64 0, .int .i64 0, .int .i64 0, .int .i64 0, .int .i64 0, .int .i64 0, .int .i64 0, .int .i64 0, .int .i64 0, .int .i64 0, .int .i64 0, .int .u32 0, .int .u32 0, .slice none 0 0] 40)).mono (Y := fun k => (w.heap.size ≤ k ∧ k < w.heap.size + 2) ∨ (m.bytes.length ≠ 0 ∧ ∃ o, p = some ⟨k, o, none⟩)) (fun k hk => by
    rcases hk with hk | hk
    · by_cases e : k = w.heap.size
      · exact .inl (.inr e)
      · exact .inr (by rw [hz1]; omega)
    · exact .inl (.inl hk))).below (below_drewN _ 1)
  have HA := ha.keep (((((Below.refl w.heap.size w).alloc (Nat.le_refl _) (.cells #[.int .i64 m.kind, .int .u16 m.seq, .int .u16 m.cmd.seq, .int .u8 m.cmd.but, .int .i8 m.cmd.dx, .int .i8 m.cmd.dy, .int .i64 m.cmd.tk, .int .u16 m.prov, .int .i64 m.id, .int .i64 m.shot, .int .i64 m.dir.x, .int .i64 m.dir.y, .int .i64 m.dir.z, .int .i64 m.why, .int .i64 m.pos.x, .int .i64 m.pos.y, .int .i64 m.pos.z, .int .i64 m.vel.x, .int .i64 m.vel.y, .int .i64 m.vel.z, .int .u32 m.tick, .int .u32 m.base, .slice p m.bytes.length cap] 40))).alloc (by simp) (.cells #[.int .i64 0, .int .u16 0, .int .u16 0, .int .u8 0, .int .i8 0, .int .i8 0, .int .i64 0, .int .u16 0, .int .i64 0, .int .i64 0, .int .i64 0, .int .i64 0, .int .i64 0, .int .i64 0, .int .i64 0, .int .i64 0, .int .i64 0, .int .i64 0, .int .i64 0, .int .i64 0, .int .u32 0, .int .u32 0, .slice none 0 0] 40)).trans (below_drewN _ 1))
  clear hz1 G0 ha
  generalize hu0 : ((w.alloc (.cells #[.int .i64 m.kind, .int .u16 m.seq, .int .u16 m.cmd.seq, .int .u8 m.cmd.but, .int .i8 m.cmd.dx, .int .i8 m.cmd.dy, .int .i64 m.cmd.tk, .int .u16 m.prov, .int .i64 m.id, .int .i64 m.shot, .int .i64 m.dir.x, .int .i64 m.dir.y, .int .i64 m.dir.z, .int .i64 m.why, .int .i64 m.pos.x, .int .i64 m.pos.y, .int .i64 m.pos.z, .int .i64 m.vel.x, .int .i64 m.vel.y, .int .i64 m.vel.z, .int .u32 m.tick, .int .u32 m.base, .slice p m.bytes.length cap] 40)).alloc (.cells #[.int .i64 0, .int .u16 0, .int .u16 0, .int .u8 0, .int .i8 0, .int .i8 0, .int .i64 0, .int .u16 0, .int .i64 0, .int .i64 0, .int .i64 0, .int .i64 0, .int .i64 0, .int .i64 0, .int .i64 0, .int .i64 0, .int .i64 0, .int .i64 0, .int .i64 0, .int .i64 0, .int .u32 0, .int .u32 0, .slice none 0 0] 40)).drewN 1 = u0 at *
  have hu0' : ((w.alloc (.cells #[.int .i64 m.kind, .int .u16 m.seq, .int .u16 m.cmd.seq, .int .u8 m.cmd.but, .int .i8 m.cmd.dx, .int .i8 m.cmd.dy, .int .i64 m.cmd.tk, .int .u16 m.prov, .int .i64 m.id, .int .i64 m.shot, .int .i64 m.dir.x, .int .i64 m.dir.y, .int .i64 m.dir.z, .int .i64 m.why, .int .i64 m.pos.x, .int .i64 m.pos.y, .int .i64 m.pos.z, .int .i64 m.vel.x, .int .i64 m.vel.y, .int .i64 m.vel.z, .int .u32 m.tick, .int .u32 m.base, .slice p m.bytes.length cap] 40)).alloc (.cells #[.int .i64 0, .int .u16 0, .int .u16 0, .int .u8 0, .int .i8 0, .int .i8 0, .int .i64 0, .int .u16 0, .int .i64 0, .int .i64 0, .int .i64 0, .int .i64 0, .int .i64 0, .int .i64 0, .int .i64 0, .int .i64 0, .int .i64 0, .int .i64 0, .int .i64 0, .int .i64 0, .int .u32 0, .int .u32 0, .slice none 0 0] 40)).drew = u0 := hu0
  rw [hu0']
  clear hu0 hu0'
  refine (G.call (fun S1 h => c1 S1 _ h)).mono ?_
  rintro e u1 ⟨rfl, G', hk', hz⟩
  dsimp only
  have hszt := G'.size
  have HAa := HA.same hz (fun h0 k o hp => hk' k (.inr ⟨h0, o, hp⟩))
  replace A0 := (A0.same (hk' _ (.inl (by omega)))).alloc (.cells #[.int .i64 3, .int .u16 0, .int .u16 0, .int .u8 0, .int .i8 0, .int .i8 0, .int .i64 0, .int .u16 0, .int .i64 0, .int .i64 0, .int .i64 0, .int .i64 0, .int .i64 0, .int .i64 0, .int .i64 0, .int .i64 0, .int .i64 0, .int .i64 0, .int .i64 0, .int .i64 0, .int .u32 0, .int .u32 0, .slice none 0 0] 40)
  have U1 := hid (A1.same (hk' _ (.inl (by omega))))
  replace A1 := (A1.same (hk' _ (.inl (by omega)))).alloc (.cells #[.int .i64 3, .int .u16 0, .int .u16 0, .int .u8 0, .int .i8 0, .int .i8 0, .int .i64 0, .int .u16 0, .int .i64 0, .int .i64 0, .int .i64 0, .int .i64 0, .int .i64 0, .int .i64 0, .int .i64 0, .int .i64 0, .int .i64 0, .int .i64 0, .int .i64 0, .int .i64 0, .int .u32 0, .int .u32 0, .slice none 0 0] 40)
  have A2 := Bq.new u1 40 #[.int .i64 3, .int .u16 0, .int .u16 0, .int .u8 0, .int .i8 0, .int .i8 0, .int .i64 0, .int .u16 0, .int .i64 0, .int .i64 0, .int .i64 0, .int .i64 0, .int .i64 0, .int .i64 0, .int .i64 0, .int .i64 0, .int .i64 0, .int .i64 0, .int .i64 0, .int .i64 0, .int .u32 0, .int .u32 0, .slice none 0 0]
  replace G := (G'.alloc (.cells #[.int .i64 3, .int .u16 0, .int .u16 0, .int .u8 0, .int .i8 0, .int .i8 0, .int .i64 0, .int .u16 0, .int .i64 0, .int .i64 0, .int .i64 0, .int .i64 0, .int .i64 0, .int .i64 0, .int .i64 0, .int .i64 0, .int .i64 0, .int .i64 0, .int .i64 0, .int .i64 0, .int .u32 0, .int .u32 0, .slice none 0 0] 40))
  replace HA := HAa.keep ((Below.refl _ _).alloc (Nat.le_refl _) (.cells #[.int .i64 3, .int .u16 0, .int .u16 0, .int .u8 0, .int .i8 0, .int .i8 0, .int .i64 0, .int .u16 0, .int .i64 0, .int .i64 0, .int .i64 0, .int .i64 0, .int .i64 0, .int .i64 0, .int .i64 0, .int .i64 0, .int .i64 0, .int .i64 0, .int .i64 0, .int .i64 0, .int .u32 0, .int .u32 0, .slice none 0 0] 40))
  have hne : w.heap.size + 1 < u1.heap.size := G'.lt (.inl (by omega))
  clear G' hk' c1 HAa hz
  have HG := hid G; have H0 := hid A0; have H1 := hid A1; have H2 := hid A2; have HA' := hid HA
  clear G A0 A1 A2 HA
  clear U1
  have t0 := H2.out.cell (i := 0) rfl
  go_wp2_with (refine wpList_store_row rfl 40 _ _ rfl u1.heap.size #[.int .i64 3, .int .u16 0, .int .u16 0, .int .u8 0, .int .i8 0, .int .i8 0, .int .i64 0, .int .u16 0, .int .i64 0, .int .i64 0, .int .i64 0, .int .i64 0, .int .i64 0, .int .i64 0, .int .i64 0, .int .i64 0, .int .i64 0, .int .i64 0, .int .i64 0, .int .i64 0, .int .u32 0, .int .u32 0, .slice none 0 0] rfl rfl 40 #[.int .i64 0, .int .u16 0, .int .u16 0, .int .u8 0, .int .i8 0, .int .i8 0, .int .i64 0, .int .u16 0, .int .i64 0, .int .i64 0, .int .i64 0, .int .i64 0, .int .i64 0, .int .i64 0, .int .i64 0, .int .i64 0, .int .i64 0, .int .i64 0, .int .i64 0, .int .i64 0, .int .u32 0, .int .u32 0, .slice none 0 0] (heap_alloc_new u1 _) size_msg rfl one23 ?_; rw [World.setRow_alloc_new]; generalize u1.alloc (.cells #[.int .i64 3, .int .u16 0, .int .u16 0, .int .u8 0, .int .i8 0, .int .i8 0, .int .i64 0, .int .u16 0, .int .i64 0, .int .i64 0, .int .i64 0, .int .i64 0, .int .i64 0, .int .i64 0, .int .i64 0, .int .i64 0, .int .i64 0, .int .i64 0, .int .i64 0, .int .i64 0, .int .u32 0, .int .u32 0, .slice none 0 0] 40) = x0 at *)
  clear t0
  have GD := hid (HG.out.below (below_drewN x0 1))
  have D0 := hid (H0.out.below (below_drewN x0 1)); have D1 := hid (H1.out.below (below_drewN x0 1)); have D2 := hid (H2.out.below (below_drewN x0 1)); have DA := hid (HA'.out.keep (below_drewN x0 1))
  refine region_held (fun u => u.cell? ⟨w.heap.size, 7, none⟩ = some (.int .u16 m.prov)) 7 rfl (by kernel_rfl) (D0.out.cell (i := 7) rfl) ?_
  clear HG H0 H1 H2 HA'
  have HG := GD; have H0 := D0; have H1 := D1; have H2 := D2; have HA' := DA
  clear GD D0 D1 D2 DA
  intro hHeld
  refine takeO 0 (some 42) (v := ?v1) rfl rfl (by kernel_rfl) (by kernel_rfl) (by kernel_rfl) (Or.inl ⟨by rfl, ?y1⟩) hHeld ?r1
  case y1 => (intro w' hSw; (try dsimp only at hSw); go_simp; try with_reducible rfl)
  try simp only [Act.put, List.setIfInBounds_toArray, List.set_cons_zero, List.set_cons_succ]
  refine takeO 1 (some 43) (v := ?v2) rfl rfl (by kernel_rfl) (by kernel_rfl) (by kernel_rfl) (Or.inl ⟨by rfl, ?y2⟩) hHeld ?r2
  case y2 => (intro w' hSw; (try dsimp only at hSw); go_simp; try with_reducible rfl)
  try simp only [Act.put, List.setIfInBounds_toArray, List.set_cons_zero, List.set_cons_succ]
  refine takeO 2 (some 44) (v := ?v3) rfl rfl (by kernel_rfl) (by kernel_rfl) (by kernel_rfl) (Or.inl ⟨by rfl, ?y3⟩) hHeld ?r3
  case y3 => (intro w' hSw; (try dsimp only at hSw); go_simp; try with_reducible rfl)
  try simp only [Act.put, List.setIfInBounds_toArray, List.set_cons_zero, List.set_cons_succ]
  refine wpAnyH_ready (rs := [3]) (by kernel_rfl) (by simp) ?_
  refine AllReadyH.cons rfl (fun K hK => ?_) AllReadyH.nil
  go_simp
  refine (U16 _).mono ?_
  rintro e r1 ⟨rfl, hb⟩
  dsimp only
  have GD := hid (HG.out.below hb)
  have D0 := hid (H0.out.below hb); have D1 := hid (H1.out.below hb); have D2 := hid (H2.out.below hb); have DA := hid (HA'.out.keep hb)
  clear HG H0 H1 H2 HA' hHeld
  have HG := GD; have H0 := D0; have H1 := D1; have H2 := D2; have HA' := DA
  clear GD D0 D1 D2 DA
  refine hK.out _ _ (H0.out.cell (i := 7) rfl) (fun hHeld => ?_)
  clear hK K hb
  refine wpAnyH_ready (rs := [4]) (by kernel_rfl) (by simp) ?_
  refine AllReadyH.cons rfl (fun K hK => ?_) AllReadyH.nil
  go_simp
  refine (HG.out.call (fun S1 h => d1 S1 _ h)).mono ?_
  rintro e y1 ⟨rfl, G', hk', hz⟩
  dsimp only
  have D0 := hid (H0.out.same (hk' _ (.inl (.inl (by omega))))); have D1 := hid (H1.out.same (hk' _ (.inl (.inl (by omega))))); have D2 := hid (H2.out.same (hk' _ (.inr rfl)))
  have DA := hid (HA'.out.same hz (fun h0 k o hp => hk' k (.inl (.inr ⟨h0, o, hp⟩))))
  have GD := hid G'
  clear HG H0 H1 H2 HA' hk' hz G'
  have HG := GD; have H0 := D0; have H1 := D1; have H2 := D2; have HA' := DA
  clear GD D0 D1 D2 DA
  refine hK.out _ _ (H0.out.cell (i := 7) rfl) (fun hHeld => ?_)
  clear hK K hHeld
  have hHeld : y1.cell? ⟨w.heap.size, 7, none⟩ = some (.int .u16 m.prov) := H0.out.cell (i := 7) rfl
  refine takeO 5 (some 47) (v := ?v4) rfl rfl (by kernel_rfl) (by kernel_rfl) (by kernel_rfl) (Or.inl ⟨by rfl, ?y4⟩) hHeld ?r4
  case y4 => (intro w' hSw; (try dsimp only at hSw); go_simp; try with_reducible rfl)
  try simp only [Act.put, List.setIfInBounds_toArray, List.set_cons_zero, List.set_cons_succ]
  refine wpAnyH_ready (rs := [6]) (by kernel_rfl) (by simp) ?_
  refine AllReadyH.cons rfl (fun K hK => ?_) AllReadyH.nil
  have t7 := H2.out.cell (i := 7) rfl
  have ft := H2.out.thaw
  go_simp
  clear t7 ft hHeld
  have D2 := (H2.out.set 7 (.int .u16 q1))
  simp only [List.setIfInBounds_toArray, List.set_cons_zero, List.set_cons_succ] at D2
  replace D2 := hid D2; have D0 := hid ((H0.out.other (i := 7) (b := u1.heap.size) (by omega) (.int .u16 q1))); have D1 := hid ((H1.out.other (i := 7) (b := u1.heap.size) (by omega) (.int .u16 q1))); have GD := hid ((HG.out.set (B := u1.heap.size) (.inr rfl) (by omega) 7 (.int .u16 q1)))
  have DA := hid (HA'.out.same (w' := (y1.setCell ⟨u1.heap.size, 7, none⟩ (.int .u16 q1))) (by simp [World.setCell]) (fun h0 k o hp => by
    have hkn : k ≠ u1.heap.size := by have := hlt k o h0 hp; omega
    repeat rw [Below.heap_setCell _ _ _ _ hkn]))
  clear HG H0 H1 H2 HA'
  have HG := GD; have H0 := D0; have H1 := D1; have H2 := D2; have HA' := DA
  clear GD D0 D1 D2 DA
  refine hK.out _ _ (H0.out.cell (i := 7) rfl) (fun hHeld => ?_)
  clear hK K hHeld
  refine wpAnyH_done (by kernel_rfl) (Only.on ?_) _
  generalize (y1.setCell ⟨u1.heap.size, 7, none⟩ (.int .u16 q1)) = x1 at *
  have s9 := H0.out.cell (i := 9) rfl
  go_wp2_with fail
  clear s9
  refine (HG.out.call (fun S1 h => d2 S1 _ h)).mono ?_
  rintro e y2 ⟨rfl, G', hk', hz⟩
  dsimp only
  have D0 := hid (H0.out.same (hk' _ (.inl (.inl (by omega))))); have D1 := hid (H1.out.same (hk' _ (.inl (.inl (by omega))))); have D2 := hid (H2.out.same (hk' _ (.inr rfl)))
  have DA := hid (HA'.out.same hz (fun h0 k o hp => hk' k (.inl (.inr ⟨h0, o, hp⟩))))
  have GD := hid G'
  clear HG H0 H1 H2 HA' hk' hz G'
  have HG := GD; have H0 := D0; have H1 := D1; have H2 := D2; have HA' := DA
  clear GD D0 D1 D2 DA
  have t9 := H2.out.cell (i := 9) rfl
  have ft := H2.out.thaw
  have D2 := (H2.out.set 9 (.int .i64 q2))
  simp only [List.setIfInBounds_toArray, List.set_cons_zero, List.set_cons_succ] at D2
  replace D2 := hid D2; have D0 := hid ((H0.out.other (i := 9) (b := u1.heap.size) (by omega) (.int .i64 q2))); have D1 := hid ((H1.out.other (i := 9) (b := u1.heap.size) (by omega) (.int .i64 q2))); have GD := hid ((HG.out.set (B := u1.heap.size) (.inr rfl) (by omega) 9 (.int .i64 q2)))
  have DA := hid (HA'.out.same (w' := (y2.setCell ⟨u1.heap.size, 9, none⟩ (.int .i64 q2))) (by simp [World.setCell]) (fun h0 k o hp => by
    have hkn : k ≠ u1.heap.size := by have := hlt k o h0 hp; omega
    repeat rw [Below.heap_setCell _ _ _ _ hkn]))
  have s10 := D0.out.cell (i := 10) rfl
  have s11 := D0.out.cell (i := 11) rfl
  have s12 := D0.out.cell (i := 12) rfl
  go_wp2_with fail
  clear t9 ft s10 s11 s12
  clear HG H0 H1 H2 HA'
  have HG := GD; have H0 := D0; have H1 := D1; have H2 := D2; have HA' := DA
  clear GD D0 D1 D2 DA
  generalize (y2.setCell ⟨u1.heap.size, 9, none⟩ (.int .i64 q2)) = x2 at *
  refine (HG.out.call (fun S1 h => d3 S1 _ h)).mono ?_
  rintro e y3 ⟨rfl, G', hk', hz⟩
  dsimp only
  have D0 := hid (H0.out.same (hk' _ (.inl (.inl (by omega))))); have D1 := hid (H1.out.same (hk' _ (.inl (.inl (by omega))))); have D2 := hid (H2.out.same (hk' _ (.inr rfl)))
  have DA := hid (HA'.out.same hz (fun h0 k o hp => hk' k (.inl (.inr ⟨h0, o, hp⟩))))
  have GD := hid G'
  clear HG H0 H1 H2 HA' hk' hz G'
  have HG := GD; have H0 := D0; have H1 := D1; have H2 := D2; have HA' := DA
  clear GD D0 D1 D2 DA
  have t10 := H2.out.cell (i := 10) rfl
  have t11 := H2.out.cell (i := 11) rfl
  have t12 := H2.out.cell (i := 12) rfl
  have ft := H2.out.thaw
  have D2 := (((H2.out.set 10 (.int .i64 q3.x)).set 11 (.int .i64 q3.y)).set 12 (.int .i64 q3.z))
  simp only [List.setIfInBounds_toArray, List.set_cons_zero, List.set_cons_succ] at D2
  replace D2 := hid D2; have D0 := hid ((((H0.out.other (i := 10) (b := u1.heap.size) (by omega) (.int .i64 q3.x)).other (i := 11) (b := u1.heap.size) (by omega) (.int .i64 q3.y)).other (i := 12) (b := u1.heap.size) (by omega) (.int .i64 q3.z))); have D1 := hid ((((H1.out.other (i := 10) (b := u1.heap.size) (by omega) (.int .i64 q3.x)).other (i := 11) (b := u1.heap.size) (by omega) (.int .i64 q3.y)).other (i := 12) (b := u1.heap.size) (by omega) (.int .i64 q3.z))); have GD := hid ((((HG.out.set (B := u1.heap.size) (.inr rfl) (by omega) 10 (.int .i64 q3.x)).set (B := u1.heap.size) (.inr rfl) (by omega) 11 (.int .i64 q3.y)).set (B := u1.heap.size) (.inr rfl) (by omega) 12 (.int .i64 q3.z)))
  have DA := hid (HA'.out.same (w' := (((y3.setCell ⟨u1.heap.size, 10, none⟩ (.int .i64 q3.x)).setCell ⟨u1.heap.size, 11, none⟩ (.int .i64 q3.y)).setCell ⟨u1.heap.size, 12, none⟩ (.int .i64 q3.z))) (by simp [World.setCell]) (fun h0 k o hp => by
    have hkn : k ≠ u1.heap.size := by have := hlt k o h0 hp; omega
    repeat rw [Below.heap_setCell _ _ _ _ hkn]))
  go_upto_region 25 with fail
  clear t10 t11 t12 ft
  clear HG H0 H1 H2 HA'
  have HG := GD; have H0 := D0; have H1 := D1; have H2 := D2; have HA' := DA
  clear GD D0 D1 D2 DA
  generalize (((y3.setCell ⟨u1.heap.size, 10, none⟩ (.int .i64 q3.x)).setCell ⟨u1.heap.size, 11, none⟩ (.int .i64 q3.y)).setCell ⟨u1.heap.size, 12, none⟩ (.int .i64 q3.z)) = x3 at *
  go_step
  refine wpList_load_row rfl 40 _ rfl u1.heap.size rfl 40 #[.int .i64 3, .int .u16 0, .int .u16 0, .int .u8 0, .int .i8 0, .int .i8 0, .int .i64 0, .int .u16 q1, .int .i64 0, .int .i64 q2, .int .i64 q3.x, .int .i64 q3.y, .int .i64 q3.z, .int .i64 0, .int .i64 0, .int .i64 0, .int .i64 0, .int .i64 0, .int .i64 0, .int .i64 0, .int .u32 0, .int .u32 0, .slice none 0 0] (0, 0) _ H2.out.obj Try.underlying40 rfl size_msg ?_
  refine wpList_store_row rfl 40 _ _ rfl (w.heap.size + 1) #[.int .i64 3, .int .u16 0, .int .u16 0, .int .u8 0, .int .i8 0, .int .i8 0, .int .i64 0, .int .u16 q1, .int .i64 0, .int .i64 q2, .int .i64 q3.x, .int .i64 q3.y, .int .i64 q3.z, .int .i64 0, .int .i64 0, .int .i64 0, .int .i64 0, .int .i64 0, .int .i64 0, .int .i64 0, .int .u32 0, .int .u32 0, .slice none 0 0] rfl rfl 40 _ H1.out.obj size_msg rfl one23 ?_
  go_wp2_with fail
  have E := H1.out.setRow #[.int .i64 3, .int .u16 0, .int .u16 0, .int .u8 0, .int .i8 0, .int .i8 0, .int .i64 0, .int .u16 q1, .int .i64 0, .int .i64 q2, .int .i64 q3.x, .int .i64 q3.y, .int .i64 q3.z, .int .i64 0, .int .i64 0, .int .i64 0, .int .i64 0, .int .i64 0, .int .i64 0, .int .i64 0, .int .u32 0, .int .u32 0, .slice none 0 0]
  have GE := hid (HG.out.setRow (B := w.heap.size + 1) (.inl (.inl (by omega))) (by omega) #[.int .i64 3, .int .u16 0, .int .u16 0, .int .u8 0, .int .i8 0, .int .i8 0, .int .i64 0, .int .u16 q1, .int .i64 0, .int .i64 q2, .int .i64 q3.x, .int .i64 q3.y, .int .i64 q3.z, .int .i64 0, .int .i64 0, .int .i64 0, .int .i64 0, .int .i64 0, .int .i64 0, .int .i64 0, .int .u32 0, .int .u32 0, .slice none 0 0])
  clear HG H0 H1 H2 HA'
  refine bodyPost_ret (v := .agg #[.int .i64 3, .int .u16 0, .int .u16 0, .int .u8 0, .int .i8 0, .int .i8 0, .int .i64 0, .int .u16 q1, .int .i64 0, .int .i64 q2, .int .i64 q3.x, .int .i64 q3.y, .int .i64 q3.z, .int .i64 0, .int .i64 0, .int .i64 0, .int .i64 0, .int .i64 0, .int .i64 0, .int .i64 0, .int .u32 0, .int .u32 0, .slice none 0 0]) ?hres ?hdef ?hend
  case hres => exact results_cell_row rfl _ _ (w.heap.size + 1) 40 #[.int .i64 3, .int .u16 0, .int .u16 0, .int .u8 0, .int .i8 0, .int .i8 0, .int .i64 0, .int .u16 q1, .int .i64 0, .int .i64 q2, .int .i64 q3.x, .int .i64 q3.y, .int .i64 q3.z, .int .i64 0, .int .i64 0, .int .i64 0, .int .i64 0, .int .i64 0, .int .i64 0, .int .i64 0, .int .u32 0, .int .u32 0, .slice none 0 0] (0, 0) _ rfl E.obj Try.underlying40 rfl size_msg
  case hdef => rfl
  obtain ⟨S', g1, g2, g3, g4⟩ := GE.out
  exact ⟨.slice none 0 0, rfl, Row.nil _ _, S', g1, g2, g3, fun k hk => by cases hk⟩
end Go.Proofs.Ytkmiogaklmgnkaa
