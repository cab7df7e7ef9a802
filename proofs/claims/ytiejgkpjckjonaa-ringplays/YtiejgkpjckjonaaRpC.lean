/- Layer 2 (ring): the walk of the law RingPlays. -/
import Derived.Test.YtiejgkpjckjonaaRpQ
import Derived.Deep.Cut
namespace Go.Proofs.Ytiejgkpjckjonaa
open Go.RowKit Go.Shelf
set_option linter.unusedVariables false
attribute [local go_sem] Oper.semAt_some

theorem ref_new (w : World) (mo : Int) : RefR (w.alloc (.cells #[.int .i64 mo, .slice none 0 0] 28)) (fun k => k = w.heap.size) w.heap.size mo [] none 0 :=
  ⟨heap_alloc_new w _, rfl, Nat.le_refl _, Nat.zero_le _, .inl ⟨rfl, rfl, rfl⟩, fun k hk => by simp; omega, fun u hu => absurd hu (by simp)⟩
set_option maxRecDepth 100000 in
set_option maxHeartbeats 4000000 in
theorem ringPlays_walk (mo0 : Int) (p : Option Addr) (n cap : Nat) (z : Nat → Int) (w : World) (wf : (Lit.int .i64 mo0).wf = true) (h : Arg w p n cap fun i => .int .i64 (z i)) (hz : ∀ i, (Lit.int .i64 (z i)).wf = true) :
    Calls Try.prog 3 #[.int .i64 mo0, .slice p n cap] w fun e w' => e = .returned (.bool true) ∧ Below w.heap.size w w' := by
  have hle := h.le; have hmost := h.most
  unfold maxLen at hmost
  have H := hid h
  clear h hz wf
  refine (callsIn_wide (n := 9)).1 ?_
  refine callsIn_of_wp_marks Try.func3 rfl trivial ?_ rfl
  simp only [Try.ntmps3, List.size_toArray, List.length_cons, List.length_nil, Nat.reduceAdd, Nat.reduceSub, Array.replicate_succ, Array.replicate_zero, List.push_toArray, List.append_toArray, List.nil_append, List.cons_append]
  refine wpIn_wide.2 ?_
  go_wp2_with fail
  have vb := Vr.new w 4 (.bool false)
  have hB0 : Below w.heap.size w (w.alloc (.cells #[.bool false] 4)) := (Below.refl _ _).alloc (Nat.le_refl _) _
  have hsz : (w.alloc (.cells #[.bool false] 4)).heap.size = w.heap.size + 1 := by simp
  generalize w.alloc (.cells #[.bool false] 4) = W0 at *
  have HVB := hid vb
  clear vb
  refine (shown_any W0).mono ?_; rintro e w1 ⟨rfl, hB1⟩
  obtain ⟨mo, hmo⟩ : ∃ mo : Int, min mo0 60 = mo := ⟨_, rfl⟩
  have hmo6 : mo ≤ 60 := by omega
  obtain ⟨m, hm⟩ : ∃ m : Nat, max mo 1 = (m : Int) := ⟨(max mo 1).toNat, by omega⟩
  go_upto_region 2 with fail
  obtain ⟨R1, hR1⟩ : ∃ R1 : Act → World → Prop, R1 = (fun a' w' => ∃ (u2 u3 u6 u7 u8 u9 u10 u11 u12 u13 u14 u15 u16 u17 u18 u19 u20 u21 u22 u23 u24 u25 u26 u27 u28 u29 u30 u31 u32 u33 u34 u35 u36 u37 u38 u39 u40 u41 u42 u43 u44 u45 u46 u47 u48 u49 u50 u51 u52 u53 u54 u55 u56 u57 u58 u59 u60 u61 u62 u63 u64 u65 u66 u67 u68 u69 u70 u71 u72 u73 u74 u75 u76 u77 u78 u79 u80 u81 u82 u83 u84 u85 u86 u87 u88 u89 u90 u91 u92 u93 u94 u95 u96 u97 u98 u99 u100 u101 u102 u103 u104 u105 u106 u107 u108 u109 u110 u111 u112 u113 u114 u115 u116 u117 u118 u119 u120 u121 u122 u123 u124 u125 u126 u127 u128 u129 u130 u131 u132 u133 u134 u135 u136 u137 u138 u139 u140 u141 u142 u143 u144 u145 u146 u147 u148 u149 u150 u151 u152 u153 u154 u155 u156 : Value) (ds : List Deferred), (ds = [] ∧ w' = w1) ∧ a' = { tmps := #[.int .i64 mo, .slice p n cap, u2, u3, .pointer (some ⟨w.heap.size, 0, none⟩), .bool true, u6, u7, u8, u9, u10, u11, u12, u13, u14, u15, u16, u17, u18, u19, u20, u21, u22, u23, u24, u25, u26, u27, u28, u29, u30, u31, u32, u33, u34, u35, u36, u37, u38, u39, u40, u41, u42, u43, u44, u45, u46, u47, u48, u49, u50, u51, u52, u53, u54, u55, u56, u57, u58, u59, u60, u61, u62, u63, u64, u65, u66, u67, u68, u69, u70, u71, u72, u73, u74, u75, u76, u77, u78, u79, u80, u81, u82, u83, u84, u85, u86, u87, u88, u89, u90, u91, u92, u93, u94, u95, u96, u97, u98, u99, u100, u101, u102, u103, u104, u105, u106, u107, u108, u109, u110, u111, u112, u113, u114, u115, u116, u117, u118, u119, u120, u121, u122, u123, u124, u125, u126, u127, u128, u129, u130, u131, u132, u133, u134, u135, u136, u137, u138, u139, u140, u141, u142, u143, u144, u145, u146, u147, u148, u149, u150, u151, u152, u153, u154, u155, u156], defers := ds }) := ⟨_, rfl⟩
  have HR1 := hid hR1
  clear hR1
  refine wp_cutR R1 ?_ ?_
  · rcases (by omega : (60 < mo0 ∧ mo = 60) ∨ (mo0 ≤ 60 ∧ mo0 = mo)) with ⟨k1, rfl⟩ | ⟨k1, rfl⟩
    all_goals
      clear hmo hm
      go_wp2_with fail
      rw [HR1.out]
      (repeat apply Exists.intro)
      refine ⟨?_, rfl⟩
      exact ⟨rfl, rfl⟩
  intro a' w4 hinv
  rw [HR1.out] at hinv
  clear HR1 hmo
  obtain ⟨u2, hinv⟩ := hinv
  obtain ⟨u3, hinv⟩ := hinv
  obtain ⟨u6, hinv⟩ := hinv
  obtain ⟨u7, hinv⟩ := hinv
  obtain ⟨u8, hinv⟩ := hinv
  obtain ⟨u9, hinv⟩ := hinv
  obtain ⟨u10, hinv⟩ := hinv
  obtain ⟨u11, hinv⟩ := hinv
  obtain ⟨u12, hinv⟩ := hinv
  obtain ⟨u13, hinv⟩ := hinv
  obtain ⟨u14, hinv⟩ := hinv
  obtain ⟨u15, hinv⟩ := hinv
  obtain ⟨u16, hinv⟩ := hinv
  obtain ⟨u17, hinv⟩ := hinv
  obtain ⟨u18, hinv⟩ := hinv
  obtain ⟨u19, hinv⟩ := hinv
  obtain ⟨u20, hinv⟩ := hinv
  obtain ⟨u21, hinv⟩ := hinv
  obtain ⟨u22, hinv⟩ := hinv
  obtain ⟨u23, hinv⟩ := hinv
  obtain ⟨u24, hinv⟩ := hinv
  obtain ⟨u25, hinv⟩ := hinv
  obtain ⟨u26, hinv⟩ := hinv
  obtain ⟨u27, hinv⟩ := hinv
  obtain ⟨u28, hinv⟩ := hinv
  obtain ⟨u29, hinv⟩ := hinv
  obtain ⟨u30, hinv⟩ := hinv
  obtain ⟨u31, hinv⟩ := hinv
  obtain ⟨u32, hinv⟩ := hinv
  obtain ⟨u33, hinv⟩ := hinv
  obtain ⟨u34, hinv⟩ := hinv
  obtain ⟨u35, hinv⟩ := hinv
  obtain ⟨u36, hinv⟩ := hinv
  obtain ⟨u37, hinv⟩ := hinv
  obtain ⟨u38, hinv⟩ := hinv
  obtain ⟨u39, hinv⟩ := hinv
  obtain ⟨u40, hinv⟩ := hinv
  obtain ⟨u41, hinv⟩ := hinv
  obtain ⟨u42, hinv⟩ := hinv
  obtain ⟨u43, hinv⟩ := hinv
  obtain ⟨u44, hinv⟩ := hinv
  obtain ⟨u45, hinv⟩ := hinv
  obtain ⟨u46, hinv⟩ := hinv
  obtain ⟨u47, hinv⟩ := hinv
  obtain ⟨u48, hinv⟩ := hinv
  obtain ⟨u49, hinv⟩ := hinv
  obtain ⟨u50, hinv⟩ := hinv
  obtain ⟨u51, hinv⟩ := hinv
  obtain ⟨u52, hinv⟩ := hinv
  obtain ⟨u53, hinv⟩ := hinv
  obtain ⟨u54, hinv⟩ := hinv
  obtain ⟨u55, hinv⟩ := hinv
  obtain ⟨u56, hinv⟩ := hinv
  obtain ⟨u57, hinv⟩ := hinv
  obtain ⟨u58, hinv⟩ := hinv
  obtain ⟨u59, hinv⟩ := hinv
  obtain ⟨u60, hinv⟩ := hinv
  obtain ⟨u61, hinv⟩ := hinv
  obtain ⟨u62, hinv⟩ := hinv
  obtain ⟨u63, hinv⟩ := hinv
  obtain ⟨u64, hinv⟩ := hinv
  obtain ⟨u65, hinv⟩ := hinv
  obtain ⟨u66, hinv⟩ := hinv
  obtain ⟨u67, hinv⟩ := hinv
  obtain ⟨u68, hinv⟩ := hinv
  obtain ⟨u69, hinv⟩ := hinv
  obtain ⟨u70, hinv⟩ := hinv
  obtain ⟨u71, hinv⟩ := hinv
  obtain ⟨u72, hinv⟩ := hinv
  obtain ⟨u73, hinv⟩ := hinv
  obtain ⟨u74, hinv⟩ := hinv
  obtain ⟨u75, hinv⟩ := hinv
  obtain ⟨u76, hinv⟩ := hinv
  obtain ⟨u77, hinv⟩ := hinv
  obtain ⟨u78, hinv⟩ := hinv
  obtain ⟨u79, hinv⟩ := hinv
  obtain ⟨u80, hinv⟩ := hinv
  obtain ⟨u81, hinv⟩ := hinv
  obtain ⟨u82, hinv⟩ := hinv
  obtain ⟨u83, hinv⟩ := hinv
  obtain ⟨u84, hinv⟩ := hinv
  obtain ⟨u85, hinv⟩ := hinv
  obtain ⟨u86, hinv⟩ := hinv
  obtain ⟨u87, hinv⟩ := hinv
  obtain ⟨u88, hinv⟩ := hinv
  obtain ⟨u89, hinv⟩ := hinv
  obtain ⟨u90, hinv⟩ := hinv
  obtain ⟨u91, hinv⟩ := hinv
  obtain ⟨u92, hinv⟩ := hinv
  obtain ⟨u93, hinv⟩ := hinv
  obtain ⟨u94, hinv⟩ := hinv
  obtain ⟨u95, hinv⟩ := hinv
  obtain ⟨u96, hinv⟩ := hinv
  obtain ⟨u97, hinv⟩ := hinv
  obtain ⟨u98, hinv⟩ := hinv
  obtain ⟨u99, hinv⟩ := hinv
  obtain ⟨u100, hinv⟩ := hinv
  obtain ⟨u101, hinv⟩ := hinv
  obtain ⟨u102, hinv⟩ := hinv
  obtain ⟨u103, hinv⟩ := hinv
  obtain ⟨u104, hinv⟩ := hinv
  obtain ⟨u105, hinv⟩ := hinv
  obtain ⟨u106, hinv⟩ := hinv
  obtain ⟨u107, hinv⟩ := hinv
  obtain ⟨u108, hinv⟩ := hinv
  obtain ⟨u109, hinv⟩ := hinv
  obtain ⟨u110, hinv⟩ := hinv
  obtain ⟨u111, hinv⟩ := hinv
  obtain ⟨u112, hinv⟩ := hinv
  obtain ⟨u113, hinv⟩ := hinv
  obtain ⟨u114, hinv⟩ := hinv
  obtain ⟨u115, hinv⟩ := hinv
  obtain ⟨u116, hinv⟩ := hinv
  obtain ⟨u117, hinv⟩ := hinv
  obtain ⟨u118, hinv⟩ := hinv
  obtain ⟨u119, hinv⟩ := hinv
  obtain ⟨u120, hinv⟩ := hinv
  obtain ⟨u121, hinv⟩ := hinv
  obtain ⟨u122, hinv⟩ := hinv
  obtain ⟨u123, hinv⟩ := hinv
  obtain ⟨u124, hinv⟩ := hinv
  obtain ⟨u125, hinv⟩ := hinv
  obtain ⟨u126, hinv⟩ := hinv
  obtain ⟨u127, hinv⟩ := hinv
  obtain ⟨u128, hinv⟩ := hinv
  obtain ⟨u129, hinv⟩ := hinv
  obtain ⟨u130, hinv⟩ := hinv
  obtain ⟨u131, hinv⟩ := hinv
  obtain ⟨u132, hinv⟩ := hinv
  obtain ⟨u133, hinv⟩ := hinv
  obtain ⟨u134, hinv⟩ := hinv
  obtain ⟨u135, hinv⟩ := hinv
  obtain ⟨u136, hinv⟩ := hinv
  obtain ⟨u137, hinv⟩ := hinv
  obtain ⟨u138, hinv⟩ := hinv
  obtain ⟨u139, hinv⟩ := hinv
  obtain ⟨u140, hinv⟩ := hinv
  obtain ⟨u141, hinv⟩ := hinv
  obtain ⟨u142, hinv⟩ := hinv
  obtain ⟨u143, hinv⟩ := hinv
  obtain ⟨u144, hinv⟩ := hinv
  obtain ⟨u145, hinv⟩ := hinv
  obtain ⟨u146, hinv⟩ := hinv
  obtain ⟨u147, hinv⟩ := hinv
  obtain ⟨u148, hinv⟩ := hinv
  obtain ⟨u149, hinv⟩ := hinv
  obtain ⟨u150, hinv⟩ := hinv
  obtain ⟨u151, hinv⟩ := hinv
  obtain ⟨u152, hinv⟩ := hinv
  obtain ⟨u153, hinv⟩ := hinv
  obtain ⟨u154, hinv⟩ := hinv
  obtain ⟨u155, hinv⟩ := hinv
  obtain ⟨u156, hinv⟩ := hinv
  obtain ⟨ds, ⟨rfl, rfl⟩, ha⟩ := hinv
  subst ha
  go_wp2_with fail
  refine (ringI_new m (by omega) (by omega) mo hm _).mono ?_; rintro e w2 ⟨rfl, hR, b2⟩
  go_wp2_with fail
  have hs1 := hB1.size; have hs2 := b2.size
  have e2 : w4.heap.size < w2.heap.size := hR.lt _ rfl
  have hP0 : PI w.heap.size w4.heap.size w2.heap.size (w2.heap.size + 1) m mo [] [] [] ((w2.alloc (.cells #[.int .i64 mo, .slice none 0 0] 28)).alloc (.cells #[.pointer (some ⟨w2.heap.size, 0, none⟩)] 26)) (fun k => k = w4.heap.size) (fun k => k = w2.heap.size) none 0 := by
    have q1 : Below w2.heap.size w2 ((w2.alloc (.cells #[.int .i64 mo, .slice none 0 0] 28)).alloc (.cells #[.pointer (some ⟨w2.heap.size, 0, none⟩)] 26)) := ((Below.refl _ _).alloc (Nat.le_refl _) _).alloc (by simp) _
    have vb := (HVB.out.below hB1 HVB.out.lt).below b2 (by have := HVB.out.lt; omega)
    have vp := Vr.new (w2.alloc (.cells #[.int .i64 mo, .slice none 0 0] 28)) 26 (.pointer (some ⟨w2.heap.size, 0, none⟩))
    simp only [World.size_alloc] at vp
    exact ⟨hR.below q1, (ref_new w2 mo).below ((Below.refl _ _).alloc (Nat.le_refl _) _), fun k h1 h2 => by omega, fun k h1 => by omega, fun k h1 => by omega, by omega, by omega, fun D hD => absurd hD (by simp), fun D hD => absurd hD (by simp), fun D hD => absurd hD (by simp), List.nodup_nil, fun D hD => absurd hD (by simp), vb.below q1 vb.lt, vp⟩
  have hBq : Below w.heap.size w ((w2.alloc (.cells #[.int .i64 mo, .slice none 0 0] 28)).alloc (.cells #[.pointer (some ⟨w2.heap.size, 0, none⟩)] 26)) := (((hB0.trans (hB1.mono (by omega))).trans (b2.mono (by omega))).alloc (by omega) _).alloc (by simp; omega) _
  have hpb : w.heap.size + 1 ≤ w2.heap.size := by omega
  have hm1 : 1 ≤ m := by omega
  have hm2 : m ≤ 60 := by omega
  generalize (w2.alloc (.cells #[.int .i64 mo, .slice none 0 0] 28)).alloc (.cells #[.pointer (some ⟨w2.heap.size, 0, none⟩)] 26) = W3 at *
  generalize w4.heap.size = b at *
  generalize w2.heap.size = rb at *
  generalize (fun k => k = b) = S10 at hP0
  generalize (fun k => k = rb) = S20 at hP0
  clear hR b2 hB1 hB0 hs1 hs2 e2 HVB hsz w2 w4
  rw [← lastOf_zero (vz z) m] at hP0
  obtain ⟨R3, hR3⟩ : ∃ R3 : Act → World → Prop, R3 = (fun a' w' => ∃ (u0 u2 u3 u8 u9 u10 u11 u12 u13 u14 u15 u16 u17 u18 u19 u20 u21 u22 u23 u24 u25 u26 u27 u28 u29 u30 u31 u32 u33 u34 u35 u36 u37 u38 u39 u40 u41 u42 u43 u44 u45 u46 u47 u48 u49 u50 u51 u52 u53 u54 u55 u56 u57 u58 u59 u60 u61 u62 u63 u64 u65 u66 u67 u68 u69 u70 u71 u72 u73 u74 u75 u76 u77 u78 u79 u80 u81 u82 u83 u84 u85 u86 u87 u88 u89 u90 u91 u92 u93 u94 u95 u96 u97 u98 u99 u100 u101 u102 u103 u104 u105 u106 u107 u108 u109 u110 u111 u112 u113 u114 u115 u116 u117 u118 u119 u120 u121 u122 u123 u124 u125 u126 u127 u128 u129 u130 u131 u132 u133 u134 u135 u136 u137 u138 u139 u140 u141 u142 u143 u144 u145 u146 u147 u148 u149 u150 u151 u152 u153 u154 u155 u156 : Value) (ds : List Deferred), (∃ (kk : Nat) (Ds : List Nat) (S1 S2 : Nat → Prop) (ar : Option Addr) (cp : Nat), u8 = .int .i64 kk ∧ kk ≤ n ∧ kk ≤ 100 ∧ ds = Ds.map mark ∧ PI w.heap.size b rb (rb + 1) m mo (lastOf (vz z) m kk) (lastOf (vz z) m kk) Ds w' S1 S2 ar cp ∧ Below w.heap.size w w') ∧ a' = { tmps := #[u0, .slice p n cap, u2, u3, .pointer (some ⟨w.heap.size, 0, none⟩), .bool true, .pointer (some ⟨b, 0, none⟩), .pointer (some ⟨rb + 1, 0, none⟩), u8, u9, u10, u11, u12, u13, u14, u15, u16, u17, u18, u19, u20, u21, u22, u23, u24, u25, u26, u27, u28, u29, u30, u31, u32, u33, u34, u35, u36, u37, u38, u39, u40, u41, u42, u43, u44, u45, u46, u47, u48, u49, u50, u51, u52, u53, u54, u55, u56, u57, u58, u59, u60, u61, u62, u63, u64, u65, u66, u67, u68, u69, u70, u71, u72, u73, u74, u75, u76, u77, u78, u79, u80, u81, u82, u83, u84, u85, u86, u87, u88, u89, u90, u91, u92, u93, u94, u95, u96, u97, u98, u99, u100, u101, u102, u103, u104, u105, u106, u107, u108, u109, u110, u111, u112, u113, u114, u115, u116, u117, u118, u119, u120, u121, u122, u123, u124, u125, u126, u127, u128, u129, u130, u131, u132, u133, u134, u135, u136, u137, u138, u139, u140, u141, u142, u143, u144, u145, u146, u147, u148, u149, u150, u151, u152, u153, u154, u155, u156], defers := ds }) := ⟨_, rfl⟩
  have HR3 := hid hR3
  clear hR3
  refine wp_loop R3 (fun a' _ => 100 - (intOf (a'.tmps.getD 8 undef)).toNat) ?_ ?_
  · rw [HR3.out]
    (repeat apply Exists.intro)
    refine ⟨?_, rfl⟩
    exact ⟨0, [], _, _, _, _, rfl, by omega, by omega, rfl, hP0, hBq⟩
  · clear hP0 hBq
    intro a' wq hinv
    rw [HR3.out] at hinv
    obtain ⟨u0, hinv⟩ := hinv
    obtain ⟨u2, hinv⟩ := hinv
    obtain ⟨u3, hinv⟩ := hinv
    obtain ⟨u8, hinv⟩ := hinv
    obtain ⟨u9, hinv⟩ := hinv
    obtain ⟨u10, hinv⟩ := hinv
    obtain ⟨u11, hinv⟩ := hinv
    obtain ⟨u12, hinv⟩ := hinv
    obtain ⟨u13, hinv⟩ := hinv
    obtain ⟨u14, hinv⟩ := hinv
    obtain ⟨u15, hinv⟩ := hinv
    obtain ⟨u16, hinv⟩ := hinv
    obtain ⟨u17, hinv⟩ := hinv
    obtain ⟨u18, hinv⟩ := hinv
    obtain ⟨u19, hinv⟩ := hinv
    obtain ⟨u20, hinv⟩ := hinv
    obtain ⟨u21, hinv⟩ := hinv
    obtain ⟨u22, hinv⟩ := hinv
    obtain ⟨u23, hinv⟩ := hinv
    obtain ⟨u24, hinv⟩ := hinv
    obtain ⟨u25, hinv⟩ := hinv
    obtain ⟨u26, hinv⟩ := hinv
    obtain ⟨u27, hinv⟩ := hinv
    obtain ⟨u28, hinv⟩ := hinv
    obtain ⟨u29, hinv⟩ := hinv
    obtain ⟨u30, hinv⟩ := hinv
    obtain ⟨u31, hinv⟩ := hinv
    obtain ⟨u32, hinv⟩ := hinv
    obtain ⟨u33, hinv⟩ := hinv
    obtain ⟨u34, hinv⟩ := hinv
    obtain ⟨u35, hinv⟩ := hinv
    obtain ⟨u36, hinv⟩ := hinv
    obtain ⟨u37, hinv⟩ := hinv
    obtain ⟨u38, hinv⟩ := hinv
    obtain ⟨u39, hinv⟩ := hinv
    obtain ⟨u40, hinv⟩ := hinv
    obtain ⟨u41, hinv⟩ := hinv
    obtain ⟨u42, hinv⟩ := hinv
    obtain ⟨u43, hinv⟩ := hinv
    obtain ⟨u44, hinv⟩ := hinv
    obtain ⟨u45, hinv⟩ := hinv
    obtain ⟨u46, hinv⟩ := hinv
    obtain ⟨u47, hinv⟩ := hinv
    obtain ⟨u48, hinv⟩ := hinv
    obtain ⟨u49, hinv⟩ := hinv
    obtain ⟨u50, hinv⟩ := hinv
    obtain ⟨u51, hinv⟩ := hinv
    obtain ⟨u52, hinv⟩ := hinv
    obtain ⟨u53, hinv⟩ := hinv
    obtain ⟨u54, hinv⟩ := hinv
    obtain ⟨u55, hinv⟩ := hinv
    obtain ⟨u56, hinv⟩ := hinv
    obtain ⟨u57, hinv⟩ := hinv
    obtain ⟨u58, hinv⟩ := hinv
    obtain ⟨u59, hinv⟩ := hinv
    obtain ⟨u60, hinv⟩ := hinv
    obtain ⟨u61, hinv⟩ := hinv
    obtain ⟨u62, hinv⟩ := hinv
    obtain ⟨u63, hinv⟩ := hinv
    obtain ⟨u64, hinv⟩ := hinv
    obtain ⟨u65, hinv⟩ := hinv
    obtain ⟨u66, hinv⟩ := hinv
    obtain ⟨u67, hinv⟩ := hinv
    obtain ⟨u68, hinv⟩ := hinv
    obtain ⟨u69, hinv⟩ := hinv
    obtain ⟨u70, hinv⟩ := hinv
    obtain ⟨u71, hinv⟩ := hinv
    obtain ⟨u72, hinv⟩ := hinv
    obtain ⟨u73, hinv⟩ := hinv
    obtain ⟨u74, hinv⟩ := hinv
    obtain ⟨u75, hinv⟩ := hinv
    obtain ⟨u76, hinv⟩ := hinv
    obtain ⟨u77, hinv⟩ := hinv
    obtain ⟨u78, hinv⟩ := hinv
    obtain ⟨u79, hinv⟩ := hinv
    obtain ⟨u80, hinv⟩ := hinv
    obtain ⟨u81, hinv⟩ := hinv
    obtain ⟨u82, hinv⟩ := hinv
    obtain ⟨u83, hinv⟩ := hinv
    obtain ⟨u84, hinv⟩ := hinv
    obtain ⟨u85, hinv⟩ := hinv
    obtain ⟨u86, hinv⟩ := hinv
    obtain ⟨u87, hinv⟩ := hinv
    obtain ⟨u88, hinv⟩ := hinv
    obtain ⟨u89, hinv⟩ := hinv
    obtain ⟨u90, hinv⟩ := hinv
    obtain ⟨u91, hinv⟩ := hinv
    obtain ⟨u92, hinv⟩ := hinv
    obtain ⟨u93, hinv⟩ := hinv
    obtain ⟨u94, hinv⟩ := hinv
    obtain ⟨u95, hinv⟩ := hinv
    obtain ⟨u96, hinv⟩ := hinv
    obtain ⟨u97, hinv⟩ := hinv
    obtain ⟨u98, hinv⟩ := hinv
    obtain ⟨u99, hinv⟩ := hinv
    obtain ⟨u100, hinv⟩ := hinv
    obtain ⟨u101, hinv⟩ := hinv
    obtain ⟨u102, hinv⟩ := hinv
    obtain ⟨u103, hinv⟩ := hinv
    obtain ⟨u104, hinv⟩ := hinv
    obtain ⟨u105, hinv⟩ := hinv
    obtain ⟨u106, hinv⟩ := hinv
    obtain ⟨u107, hinv⟩ := hinv
    obtain ⟨u108, hinv⟩ := hinv
    obtain ⟨u109, hinv⟩ := hinv
    obtain ⟨u110, hinv⟩ := hinv
    obtain ⟨u111, hinv⟩ := hinv
    obtain ⟨u112, hinv⟩ := hinv
    obtain ⟨u113, hinv⟩ := hinv
    obtain ⟨u114, hinv⟩ := hinv
    obtain ⟨u115, hinv⟩ := hinv
    obtain ⟨u116, hinv⟩ := hinv
    obtain ⟨u117, hinv⟩ := hinv
    obtain ⟨u118, hinv⟩ := hinv
    obtain ⟨u119, hinv⟩ := hinv
    obtain ⟨u120, hinv⟩ := hinv
    obtain ⟨u121, hinv⟩ := hinv
    obtain ⟨u122, hinv⟩ := hinv
    obtain ⟨u123, hinv⟩ := hinv
    obtain ⟨u124, hinv⟩ := hinv
    obtain ⟨u125, hinv⟩ := hinv
    obtain ⟨u126, hinv⟩ := hinv
    obtain ⟨u127, hinv⟩ := hinv
    obtain ⟨u128, hinv⟩ := hinv
    obtain ⟨u129, hinv⟩ := hinv
    obtain ⟨u130, hinv⟩ := hinv
    obtain ⟨u131, hinv⟩ := hinv
    obtain ⟨u132, hinv⟩ := hinv
    obtain ⟨u133, hinv⟩ := hinv
    obtain ⟨u134, hinv⟩ := hinv
    obtain ⟨u135, hinv⟩ := hinv
    obtain ⟨u136, hinv⟩ := hinv
    obtain ⟨u137, hinv⟩ := hinv
    obtain ⟨u138, hinv⟩ := hinv
    obtain ⟨u139, hinv⟩ := hinv
    obtain ⟨u140, hinv⟩ := hinv
    obtain ⟨u141, hinv⟩ := hinv
    obtain ⟨u142, hinv⟩ := hinv
    obtain ⟨u143, hinv⟩ := hinv
    obtain ⟨u144, hinv⟩ := hinv
    obtain ⟨u145, hinv⟩ := hinv
    obtain ⟨u146, hinv⟩ := hinv
    obtain ⟨u147, hinv⟩ := hinv
    obtain ⟨u148, hinv⟩ := hinv
    obtain ⟨u149, hinv⟩ := hinv
    obtain ⟨u150, hinv⟩ := hinv
    obtain ⟨u151, hinv⟩ := hinv
    obtain ⟨u152, hinv⟩ := hinv
    obtain ⟨u153, hinv⟩ := hinv
    obtain ⟨u154, hinv⟩ := hinv
    obtain ⟨u155, hinv⟩ := hinv
    obtain ⟨u156, hinv⟩ := hinv
    obtain ⟨ds, ⟨kk, Ds, S1, S2, ar, cp, rfl, hkn, hkk, rfl, hPI, hB⟩, ha⟩ := hinv
    subst ha
    have HPI := hid hPI; have HB := hid hB
    clear hPI
    by_cases hkl : kk < n ∧ kk < 100
    · have j1 : (kk : Int) < (n : Int) := by omega
      have j2 : (kk : Int) < 100 := by omega
      obtain ⟨ab, ao, rfl, hab, hcs⟩ := (Arg.keep H.out hB).at (i := kk) (by omega)
      have c3 : wq.cell? ⟨ab, ao + kk, none⟩ = some (.int .i64 (z kk)) := hcs kk (by omega)
      have hpush := pushI_last S1 b m kk z hm1 wq HPI.out.ring
      have hpush2 := fun W h => refPush_last S2 rb mo m kk z ar cp hm1 (by omega) hm W h
      obtain ⟨ga, hga⟩ : ∃ ga, (goes z m kk).1 = ga := ⟨_, rfl⟩
      obtain ⟨gb, hgb⟩ : ∃ gb, (goes z m kk).2 = gb := ⟨_, rfl⟩
      simp only [hga, hgb] at hpush hpush2
      have HPU2 := hid hpush2
      clear hcs hB hpush2 hga hgb
      go_wp2_with (go_at_call 13; refine hpush.mono ?_; rintro e w1 ⟨rfl, S1', hr1, hf1, hs1⟩; have hPI1 := HPI.out.push1 hr1 hf1 hs1; have hB1 : Below w.heap.size w w1 := HB.out.trans (hf1.below HB.out.size (fun k hk => Nat.le_of_lt (HPI.out.f1 k hk))); clear hpush hr1 hf1 hs1 c3 HPI HB)
      obtain ⟨_, _, he, hab', hcs⟩ := (Arg.keep H.out hB1).at (i := kk) (by omega)
      cases he
      have c3 : w1.cell? ⟨ab, ao + kk, none⟩ = some (.int .i64 (z kk)) := hcs kk (by omega)
      have cp1 := hPI1.vp.cell
      have hp2 : ∀ W', Below w1.heap.size w1 W' → Calls Try.prog 14 #[.pointer (some ⟨rb, 0, none⟩), .int .i64 (z kk)] W' fun e w' => e = .returned (.tuple #[.int .i64 ga, .bool gb]) ∧ (∃ S2' a' cp', PI w.heap.size b rb (rb + 1) m mo (lastOf (vz z) m (kk + 1)) (lastOf (vz z) m (kk + 1)) Ds w' S1' S2' a' cp') ∧ Below w.heap.size w w' ∧ w'.cell? ⟨rb + 1, 0, none⟩ = some (.pointer (some ⟨rb, 0, none⟩)) ∧ w'.cell? ⟨ab, ao + kk, none⟩ = some (.int .i64 (z kk)) := by
        intro W' hW'
        have hPW := hPI1.below hW'
        have hBW := hB1.trans (hW'.mono hB1.size)
        refine (HPU2.out W' hPW.ref).mono ?_
        rintro e w2 ⟨rfl, S2', a', cp', r1, r2, r3⟩
        have hP2 := hPW.push2 r1 r2 r3
        have hB2 : Below w.heap.size w w2 := hBW.trans (r2.below hBW.size (fun k hk => Nat.le_of_lt (hPW.f2 k hk)))
        obtain ⟨_, _, he, _, hcs2⟩ := (Arg.keep H.out hB2).at (i := kk) (by omega)
        cases he
        exact ⟨rfl, ⟨_, _, _, hP2⟩, hB2, hP2.vp.cell, hcs2 kk (by omega)⟩
      have hDr : Below w1.heap.size w1 w1.drew := (Below.refl _ _).drew
      obtain ⟨R4, hR4⟩ : ∃ R4 : Act → World → Prop, R4 = (fun a' w' => ∃ (u0 u2 u3 u13 u14 u15 u16 u17 u18 u19 u20 u21 u22 u23 u24 u25 u26 u27 u28 u29 u30 u31 u32 u33 u34 u35 u36 u37 u38 u39 u40 u41 u42 u43 u44 u45 u46 u47 u48 u49 u50 u51 u52 u53 u54 u55 u56 u57 u58 u59 u60 u61 u62 u63 u64 u65 u66 u67 u68 u69 u70 u71 u72 u73 u74 u75 u76 u77 u78 u79 u80 u81 u82 u83 u84 u85 u86 u87 u88 u89 u90 u91 u92 u93 u94 u95 u96 u97 u98 u99 u100 u101 u102 u103 u104 u105 u106 u107 u108 u109 u110 u111 u112 u113 u114 u115 u116 u117 u118 u119 u120 u121 u122 u123 u124 u125 u126 u127 u128 u129 u130 u131 u132 u133 u134 u135 u136 u137 u138 u139 u140 u141 u142 u143 u144 u145 u146 u147 u148 u149 u150 u151 u152 u153 u154 u155 u156 : Value) (ds : List Deferred), (ds = Ds.map mark ∧ (∃ S2' a' cp', PI w.heap.size b rb (rb + 1) m mo (lastOf (vz z) m (kk + 1)) (lastOf (vz z) m (kk + 1)) Ds w' S1' S2' a' cp') ∧ Below w.heap.size w w') ∧ a' = { tmps := #[u0, .slice (some ⟨ab, ao, none⟩) n cap, u2, u3, .pointer (some ⟨w.heap.size, 0, none⟩), .bool true, .pointer (some ⟨b, 0, none⟩), .pointer (some ⟨rb + 1, 0, none⟩), .int .i64 kk, .int .i64 ga, .bool gb, .int .i64 ga, .bool gb, u13, u14, u15, u16, u17, u18, u19, u20, u21, u22, u23, u24, u25, u26, u27, u28, u29, u30, u31, u32, u33, u34, u35, u36, u37, u38, u39, u40, u41, u42, u43, u44, u45, u46, u47, u48, u49, u50, u51, u52, u53, u54, u55, u56, u57, u58, u59, u60, u61, u62, u63, u64, u65, u66, u67, u68, u69, u70, u71, u72, u73, u74, u75, u76, u77, u78, u79, u80, u81, u82, u83, u84, u85, u86, u87, u88, u89, u90, u91, u92, u93, u94, u95, u96, u97, u98, u99, u100, u101, u102, u103, u104, u105, u106, u107, u108, u109, u110, u111, u112, u113, u114, u115, u116, u117, u118, u119, u120, u121, u122, u123, u124, u125, u126, u127, u128, u129, u130, u131, u132, u133, u134, u135, u136, u137, u138, u139, u140, u141, u142, u143, u144, u145, u146, u147, u148, u149, u150, u151, u152, u153, u154, u155, u156], defers := ds }) := ⟨_, rfl⟩
      have HR4 := hid hR4
      clear hR4 hcs HPU2 hab' hab hPI1
      refine wp_cutR R4 ?_ ?_
      · go_region_held3 (fun w' => w'.cell? ⟨rb + 1, 0, none⟩ = some (.pointer (some ⟨rb, 0, none⟩)) ∧ w'.cell? ⟨ab, ao + kk, none⟩ = some (.int .i64 (z kk)))
          (first
            | assumption
            | exact ⟨cp1, c3⟩
            | exact ⟨k1, k2⟩)
          (first
            | (go_at_call 14; refine (hp2 _ hDr).mono ?_; rintro e w2 ⟨rfl, HP2, hB2, k1, k2⟩))
        all_goals
          rw [HR4.out]
          (repeat apply Exists.intro)
          refine ⟨?_, rfl⟩
          exact ⟨rfl, HP2, hB2⟩
      clear hp2 hDr c3 cp1 hB1
      intro a' w3 hinv
      rw [HR4.out] at hinv
      clear HR4 w1
      obtain ⟨u0, hinv⟩ := hinv
      obtain ⟨u2, hinv⟩ := hinv
      obtain ⟨u3, hinv⟩ := hinv
      obtain ⟨u13, hinv⟩ := hinv
      obtain ⟨u14, hinv⟩ := hinv
      obtain ⟨u15, hinv⟩ := hinv
      obtain ⟨u16, hinv⟩ := hinv
      obtain ⟨u17, hinv⟩ := hinv
      obtain ⟨u18, hinv⟩ := hinv
      obtain ⟨u19, hinv⟩ := hinv
      obtain ⟨u20, hinv⟩ := hinv
      obtain ⟨u21, hinv⟩ := hinv
      obtain ⟨u22, hinv⟩ := hinv
      obtain ⟨u23, hinv⟩ := hinv
      obtain ⟨u24, hinv⟩ := hinv
      obtain ⟨u25, hinv⟩ := hinv
      obtain ⟨u26, hinv⟩ := hinv
      obtain ⟨u27, hinv⟩ := hinv
      obtain ⟨u28, hinv⟩ := hinv
      obtain ⟨u29, hinv⟩ := hinv
      obtain ⟨u30, hinv⟩ := hinv
      obtain ⟨u31, hinv⟩ := hinv
      obtain ⟨u32, hinv⟩ := hinv
      obtain ⟨u33, hinv⟩ := hinv
      obtain ⟨u34, hinv⟩ := hinv
      obtain ⟨u35, hinv⟩ := hinv
      obtain ⟨u36, hinv⟩ := hinv
      obtain ⟨u37, hinv⟩ := hinv
      obtain ⟨u38, hinv⟩ := hinv
      obtain ⟨u39, hinv⟩ := hinv
      obtain ⟨u40, hinv⟩ := hinv
      obtain ⟨u41, hinv⟩ := hinv
      obtain ⟨u42, hinv⟩ := hinv
      obtain ⟨u43, hinv⟩ := hinv
      obtain ⟨u44, hinv⟩ := hinv
      obtain ⟨u45, hinv⟩ := hinv
      obtain ⟨u46, hinv⟩ := hinv
      obtain ⟨u47, hinv⟩ := hinv
      obtain ⟨u48, hinv⟩ := hinv
      obtain ⟨u49, hinv⟩ := hinv
      obtain ⟨u50, hinv⟩ := hinv
      obtain ⟨u51, hinv⟩ := hinv
      obtain ⟨u52, hinv⟩ := hinv
      obtain ⟨u53, hinv⟩ := hinv
      obtain ⟨u54, hinv⟩ := hinv
      obtain ⟨u55, hinv⟩ := hinv
      obtain ⟨u56, hinv⟩ := hinv
      obtain ⟨u57, hinv⟩ := hinv
      obtain ⟨u58, hinv⟩ := hinv
      obtain ⟨u59, hinv⟩ := hinv
      obtain ⟨u60, hinv⟩ := hinv
      obtain ⟨u61, hinv⟩ := hinv
      obtain ⟨u62, hinv⟩ := hinv
      obtain ⟨u63, hinv⟩ := hinv
      obtain ⟨u64, hinv⟩ := hinv
      obtain ⟨u65, hinv⟩ := hinv
      obtain ⟨u66, hinv⟩ := hinv
      obtain ⟨u67, hinv⟩ := hinv
      obtain ⟨u68, hinv⟩ := hinv
      obtain ⟨u69, hinv⟩ := hinv
      obtain ⟨u70, hinv⟩ := hinv
      obtain ⟨u71, hinv⟩ := hinv
      obtain ⟨u72, hinv⟩ := hinv
      obtain ⟨u73, hinv⟩ := hinv
      obtain ⟨u74, hinv⟩ := hinv
      obtain ⟨u75, hinv⟩ := hinv
      obtain ⟨u76, hinv⟩ := hinv
      obtain ⟨u77, hinv⟩ := hinv
      obtain ⟨u78, hinv⟩ := hinv
      obtain ⟨u79, hinv⟩ := hinv
      obtain ⟨u80, hinv⟩ := hinv
      obtain ⟨u81, hinv⟩ := hinv
      obtain ⟨u82, hinv⟩ := hinv
      obtain ⟨u83, hinv⟩ := hinv
      obtain ⟨u84, hinv⟩ := hinv
      obtain ⟨u85, hinv⟩ := hinv
      obtain ⟨u86, hinv⟩ := hinv
      obtain ⟨u87, hinv⟩ := hinv
      obtain ⟨u88, hinv⟩ := hinv
      obtain ⟨u89, hinv⟩ := hinv
      obtain ⟨u90, hinv⟩ := hinv
      obtain ⟨u91, hinv⟩ := hinv
      obtain ⟨u92, hinv⟩ := hinv
      obtain ⟨u93, hinv⟩ := hinv
      obtain ⟨u94, hinv⟩ := hinv
      obtain ⟨u95, hinv⟩ := hinv
      obtain ⟨u96, hinv⟩ := hinv
      obtain ⟨u97, hinv⟩ := hinv
      obtain ⟨u98, hinv⟩ := hinv
      obtain ⟨u99, hinv⟩ := hinv
      obtain ⟨u100, hinv⟩ := hinv
      obtain ⟨u101, hinv⟩ := hinv
      obtain ⟨u102, hinv⟩ := hinv
      obtain ⟨u103, hinv⟩ := hinv
      obtain ⟨u104, hinv⟩ := hinv
      obtain ⟨u105, hinv⟩ := hinv
      obtain ⟨u106, hinv⟩ := hinv
      obtain ⟨u107, hinv⟩ := hinv
      obtain ⟨u108, hinv⟩ := hinv
      obtain ⟨u109, hinv⟩ := hinv
      obtain ⟨u110, hinv⟩ := hinv
      obtain ⟨u111, hinv⟩ := hinv
      obtain ⟨u112, hinv⟩ := hinv
      obtain ⟨u113, hinv⟩ := hinv
      obtain ⟨u114, hinv⟩ := hinv
      obtain ⟨u115, hinv⟩ := hinv
      obtain ⟨u116, hinv⟩ := hinv
      obtain ⟨u117, hinv⟩ := hinv
      obtain ⟨u118, hinv⟩ := hinv
      obtain ⟨u119, hinv⟩ := hinv
      obtain ⟨u120, hinv⟩ := hinv
      obtain ⟨u121, hinv⟩ := hinv
      obtain ⟨u122, hinv⟩ := hinv
      obtain ⟨u123, hinv⟩ := hinv
      obtain ⟨u124, hinv⟩ := hinv
      obtain ⟨u125, hinv⟩ := hinv
      obtain ⟨u126, hinv⟩ := hinv
      obtain ⟨u127, hinv⟩ := hinv
      obtain ⟨u128, hinv⟩ := hinv
      obtain ⟨u129, hinv⟩ := hinv
      obtain ⟨u130, hinv⟩ := hinv
      obtain ⟨u131, hinv⟩ := hinv
      obtain ⟨u132, hinv⟩ := hinv
      obtain ⟨u133, hinv⟩ := hinv
      obtain ⟨u134, hinv⟩ := hinv
      obtain ⟨u135, hinv⟩ := hinv
      obtain ⟨u136, hinv⟩ := hinv
      obtain ⟨u137, hinv⟩ := hinv
      obtain ⟨u138, hinv⟩ := hinv
      obtain ⟨u139, hinv⟩ := hinv
      obtain ⟨u140, hinv⟩ := hinv
      obtain ⟨u141, hinv⟩ := hinv
      obtain ⟨u142, hinv⟩ := hinv
      obtain ⟨u143, hinv⟩ := hinv
      obtain ⟨u144, hinv⟩ := hinv
      obtain ⟨u145, hinv⟩ := hinv
      obtain ⟨u146, hinv⟩ := hinv
      obtain ⟨u147, hinv⟩ := hinv
      obtain ⟨u148, hinv⟩ := hinv
      obtain ⟨u149, hinv⟩ := hinv
      obtain ⟨u150, hinv⟩ := hinv
      obtain ⟨u151, hinv⟩ := hinv
      obtain ⟨u152, hinv⟩ := hinv
      obtain ⟨u153, hinv⟩ := hinv
      obtain ⟨u154, hinv⟩ := hinv
      obtain ⟨u155, hinv⟩ := hinv
      obtain ⟨u156, hinv⟩ := hinv
      obtain ⟨ds, ⟨rfl, ⟨S2', ar', cp', hPI⟩, hB⟩, ha⟩ := hinv
      subst ha
      obtain ⟨ls, hls⟩ : ∃ ls, lastOf (vz z) m (kk + 1) = ls := ⟨_, rfl⟩
      have hln : ls.length ≤ 60 := by rw [← hls, lastOf_length]; omega
      have hal : ∀ i, i < ls.length → ∃ y : Int, ls[i]? = some (.int .i64 y) := fun i hi => by
        rw [← hls] at hi ⊢
        rw [lastOf_length] at hi
        exact ⟨_, lastOf_get (vz z) hi⟩
      have hall : AllI ls := fun k hk => by
        obtain ⟨y, hy⟩ := hal k hk
        rw [List.getElem?_eq_getElem hk] at hy
        exact ⟨y, Option.some.inj hy⟩
      rw [hls] at hPI
      have HLS := hid hls; have HAL := hid hal; have HALL := hid hall
      have cpw := hPI.vp.cell
      obtain ⟨c0, c1, f1⟩ := hPI.ref.cells
      have hlen : ∀ q, Calls Try.prog 15 #[.pointer (some ⟨b, 0, none⟩)] (w3.drewN q) fun e w' => e = .returned (.int .i64 (ls.length : Nat)) ∧ w' = w3.drewN q := fun q => lenI S1' b m ls _ (hPI.ring.below (below_drewN _ _))
      have e1 : (ga != ga) = false := by simp
      have e2 : (gb != gb) = false := by simp
      have e3 : ((ls.length : Int) != (ls.length : Int)) = false := by simp
      have HPI := hid hPI; have HB := hid hB
      clear hPI hB hls hal hall
      go_wp2_with fail
      go_quiet (first | (go_at_call 15; exact Calls.quiet_of_same (hlen _)))
      go_wp2_with fail
      have hPI := HPI.out.below (below_drewN _ nq)
      have hB := HB.out.trans ((below_drewN w3 nq).mono HB.out.size)
      generalize w3.drewN nq = w5 at *
      clear HPI HB cpw c0 c1 f1 hlen e1 e2 e3
      go_loopw [13] (fun v wr => ∃ i : Int, v = .int .i64 i ∧ -1 ≤ i ∧ i ≤ (ls.length : Int) + 1 ∧ PI w.heap.size b rb (rb + 1) m mo ls ls Ds wr S1' S2' ar' cp' ∧ Below w.heap.size w wr) (fun v _ => ((ls.length : Int) + 2 - intOf v).toNat)
      case atStart => exact ⟨-1, rfl, by omega, by omega, hPI, hB⟩
      case round =>
        obtain ⟨i, rfl, hi1, hi2, hPI, hB⟩ := hrel
        have cpw := hPI.vp.cell
        obtain ⟨c0, c1, f1⟩ := hPI.ref.cells
        have HPI := hid hPI; have HB := hid hB
        by_cases hil : i ≤ (ls.length : Int)
        · by_cases hin : 0 ≤ i ∧ i < (ls.length : Int)
          · obtain ⟨d, rfl⟩ : ∃ d : Nat, i = (d : Int) := ⟨i.toNat, by omega⟩
            have hdl : d < ls.length := by omega
            have i1 : (d : Int) < (ls.length : Int) := by omega
            obtain ⟨y, hy⟩ := HAL.out d hdl
            have hat := atI_yes S1' b m ls d _ wr hPI.ring hy
            have HY := hid hy
            have ey : (y != y) = false := by simp
            have hnil : ¬ ls = [] := fun e => by rw [e] at hdl; simp at hdl
            obtain ⟨g, o, rfl⟩ : ∃ g o, ar' = some ⟨g, o, none⟩ := by
              rcases hPI.ref.row with ⟨e, _⟩ | ⟨g, o, e, _⟩
              · exact absurd e hnil
              · exact ⟨g, o, e⟩
            clear hPI hB hy hnil
            go_wp2_with (first
              | (go_at_call 16; refine hat.mono ?_; rintro e w6 ⟨rfl, hb6⟩; have hP6 := HPI.out.below hb6; have HB6 := hid (HB.out.trans (hb6.mono HB.out.size)); have cpw6 := hP6.vp.cell; have cc := hP6.ref.cells; have c16 := cc.2.1; have cy := hP6.ref.elem HY.out; have HP6 := hid hP6; clear hat hb6 hP6 cc cpw c0 c1 f1))
            go_roundw
            case rel => exact ⟨(d : Int) + 1, by go_num, by omega, by omega, HP6.out, HB6.out⟩
            case measure => simp [intOf]; omega
          · have hat := atI_no S1' b m ls i wr hPI.ring (by omega)
            clear hPI hB
            rcases (by omega : i < 0 ∨ (0 ≤ i ∧ ¬ i < (ls.length : Int))) with hn | ⟨hn, hn2⟩
            all_goals
              go_wp2_with (first
                | (go_at_call 16; refine hat.mono ?_; rintro e w6 ⟨rfl, hw6⟩; clear hat; subst hw6))
              go_roundw
              case rel => exact ⟨i + 1, by go_num, by omega, by omega, HPI.out, HB.out⟩
              case measure => simp [intOf]; omega
        · obtain rfl : i = (ls.length : Int) + 1 := by omega
          have i9 : ¬ (ls.length : Int) + 1 ≤ (ls.length : Int) := by omega
          clear hPI hB
          go_wp2_with fail
          have bA : Below wr.heap.size wr (wr.alloc (.cells #[.int .i64 0] 3)) := (Below.refl _ _).alloc (Nat.le_refl _) _
          have va := Vr.new wr 3 (.int .i64 0)
          have hPA := HPI.out.below bA
          have hBA := HB.out.trans (bA.mono HB.out.size)
          have hA1 : ¬ S1' wr.heap.size := fun e => by have := HPI.out.ring.lt _ e; omega
          have hA2 : ¬ S2' wr.heap.size := fun e => by have := HPI.out.ref.lt _ e; omega
          have hA3 : rb + 1 < wr.heap.size := HPI.out.vp.lt
          have hA4 : w.heap.size < wr.heap.size := HPI.out.vb.lt
          generalize wr.alloc (.cells #[.int .i64 0] 3) = W6 at *
          generalize wr.heap.size = A at *
          clear HPI HB cpw c0 c1 f1 bA hil i9 hi1 hi2 wr
          refine (rAllI _ W6).mono ?_; rintro e W7 ⟨rfl, hw7⟩
          have b7 : Below W6.heap.size W6 W7 := by rw [hw7]; exact (Below.refl _ _).alloc (Nat.le_refl _) _
          have hBn : Vr W7 W6.heap.size 24 (.pointer (some ⟨b, 0, none⟩)) := by rw [hw7]; exact Vr.new W6 _ _
          have hP7 := hPA.below b7
          have hva := va.below b7 va.lt
          have hB7 := hBA.trans (b7.mono hBA.size)
          obtain ⟨Bn, hBne⟩ : ∃ Bn, W6.heap.size = Bn := ⟨_, rfl⟩
          rw [hBne] at hBn ⊢
          clear hw7 b7 hPA va hBA hBne
          obtain ⟨ex, hex⟩ : ∃ ex, toI ls = ex := ⟨_, rfl⟩
          have hexl : ex.length = ls.length := by rw [← hex, toI_length]
          have hexg : ∀ (i : Nat) (y : Int), ls[i]? = some (.int .i64 y) → ex[i]? = some y := fun i y hi => by rw [← hex]; simp [toI, hi, intOf]
          have hstops := rAllI_stops 8 (by decide) (fun j => j = A ∨ j = w.heap.size) S1' Bn b m ls W7 hP7.ring HALL.out hBn.cell hBn.lt (fun j hj => by rcases hj with rfl | rfl; exact hva.lt; exact hP7.vb.lt)
          rw [hex] at hstops
          have hDb : ∀ D ∈ Ds, D < W7.heap.size := fun D hD => mark_lt hP7.marks hD
          have HEX := hid hexg; have HP7 := hid hP7; have VA := hid hva
          clear hexg hex hP7 hva hBn
          go_wp2_with fail
          refine wp_meet (fun D W => ((w.heap.size ≤ D ∧ D ∉ Ds ∧ W7.heap.size ≤ D) ∧ W.heap[D]? = some (.deferred (some []))) ∧ Marks W Ds ∧ Vr W A 3 (.int .i64 (ls.length : Nat)) ∧ Vr W w.heap.size 4 (.bool false) ∧ Kc (fun j => j = A ∨ j = w.heap.size) W7 W ∧ Below w.heap.size w W) ?_ ?_
          · refine (wpIn_wide (n := 9)).1 (wpIn_rangeFunc_ownF rfl (by decide) (gf := 43) (lb := #[.pointer (some ⟨Bn, 0, none⟩)]) rfl trivial (enters_of Try.func43 (by kernel_rfl) rfl) hstops Kc.trans (Kc.putObj _) (Below.refl _ _) (fun _ => rfl)
              (fun pre W => (pre <+: ex) ∧ Vr W A 3 (.int .i64 (pre.length : Nat)) ∧ Vr W w.heap.size 4 (.bool false) ∧ Kc (fun j => j = A ∨ j = w.heap.size) W7 W ∧ Below w.heap.size w W ∧ Marks W Ds)
              (fun c pre W => ¬ pre <+: ex)
              (OwnFrom.and own_pure (OwnFrom.and own_vr (OwnFrom.and own_vr (OwnFrom.and own_kc (OwnFrom.and (ownFrom_below (Nat.le_refl _) hB7.size) (own_marks hDb))))))
              (fun c => own_pure)
              ⟨List.nil_prefix, VA.out, HP7.out.vb, Kc.refl _ _, hB7, HP7.out.marks⟩ ?_ ?_ ?_ ?_ ?_)
            rotate_left
            · intro l x W K hK
              gi_wp2
              exact hK
            · rintro l pre x W ⟨hpre, va, vb, hkc, hBW, hM⟩ hlen
              have hnx : ∀ j, S2' j → ¬ (j = A ∨ j = w.heap.size) := fun j h1 h2 => by
                rcases h2 with rfl | rfl
                · exact hA2 h1
                · have := HP7.out.f2 _ h1; omega
              have hRf := HP7.out.ref.keepC hkc hnx
              have hvp := HP7.out.vp.keepC hkc (fun e => by omega)
              obtain ⟨y, hy⟩ := HAL.out pre.length hlen
              have i1 : (pre.length : Int) < (ls.length : Int) := by omega
              have d1 : decide ((ls.length : Int) ≤ (pre.length : Int)) = false := decide_eq_false (by omega)
              have d2 : decide (ls.length ≤ pre.length) = false := decide_eq_false (by omega)
              have d3 : decide ((pre.length : Int) ≥ (ls.length : Int)) = false := decide_eq_false (by omega)
              have d4 : decide ((pre.length : Int) < (ls.length : Int)) = true := decide_eq_true i1
              have d5 : decide (pre.length < ls.length) = true := decide_eq_true (by omega)
              have d6 : ¬ (ls.length : Int) ≤ (pre.length : Int) := by omega
              have d7 : ¬ ls.length ≤ pre.length := by omega
              have hnil : ¬ ls = [] := fun e => by rw [e] at hlen; simp at hlen
              obtain ⟨g, o, rfl⟩ : ∃ g o, ar' = some ⟨g, o, none⟩ := by
                rcases hRf.row with ⟨e, _⟩ | ⟨g, o, e, _⟩
                · exact absurd e hnil
                · exact ⟨g, o, e⟩
              have cy := hRf.elem hy
              have cc := hRf.cells
              have c1 := cc.2.1
              have cpw := hvp.cell
              have ca := va.cell; have fa := va.thaw; have cb := vb.cell; have fb := vb.thaw
              have hG := HEX.out _ _ hy
              have hgo : ∀ W', Vr W' A 3 (.int .i64 ((pre.length : Int) + 1)) → Vr W' w.heap.size 4 (.bool false) → Kc (fun j => j = A ∨ j = w.heap.size) W W' → Below w.heap.size w W' → Marks W' Ds → x = y → (pre ++ [x]) <+: ex ∧ Vr W' A 3 (.int .i64 ((pre ++ [x]).length : Nat)) ∧ Vr W' w.heap.size 4 (.bool false) ∧ Kc (fun j => j = A ∨ j = w.heap.size) W7 W' ∧ Below w.heap.size w W' ∧ Marks W' Ds := by
                intro W' k1 k2 k3 k4 k5 hx
                have el : (pre ++ [x]).length = pre.length + 1 := by simp
                refine ⟨pre_snoc hpre (by rw [hx]; exact hG), ?_, k2, hkc.trans k3, k4, k5⟩
                rw [el, Int.natCast_add]; exact k1
              have hno : x ≠ y → ¬ (pre ++ [x]) <+: ex := fun hx hp => hx (pre_last hp hG)
              have HGO := hid hgo; have HNO := hid hno
              have HVA := hid va; have HVB := hid vb; have HBW := hid hBW; have HMM := hid hM
              clear hgo hno va vb hBW hM hkc hRf hvp hy hG hnil hnx cc hstops hpre hlen
              by_cases hx : x = y
              · have e2 : (x != y) = false := by rw [hx]; simp
                have HX := hid hx
                clear hx
                gi_wp2_with fail
                refine round_quiet (F := Fence.wide) rfl (by kernel_rfl) (by kernel_rfl) (by kernel_rfl) ?_
                repeat (gi_big_quiet_step (fail))
                refine wpQuietIn_nil ?_
                intro _ hw'
                obtain ⟨nq, hw''⟩ := hw'
                subst hw''
                gi_wp2
                exact ⟨(ko_drewN _ _).trans (KeepsOthers.setCell _ _ _), (Kc.of_fr ((Fr.refl _ _).drewN _)).setCell (.inl rfl) _, HGO.out _ ((HVA.out.fr (S := fun _ => False) ((Fr.refl _ _).drewN _) (fun e => e)).set _) ((HVB.out.fr (S := fun _ => False) ((Fr.refl _ _).drewN _) (fun e => e)).other (c := A) (o := 0) (by omega) _) ((Kc.of_fr ((Fr.refl _ _).drewN _)).setCell (.inl rfl) _) ((HBW.out.trans (below_drewN _ _)).setCell (p := ⟨A, 0, none⟩) (by show w.heap.size ≤ A; omega) _) (HMM.out.others ((ko_drewN _ _).trans (KeepsOthers.setCell _ _ _))) HX.out⟩
              · have e2 : (x != y) = true := by simpa using hx
                have HX := hid hx
                clear hx
                gi_wp2_with fail
                refine round_quiet (F := Fence.wide) rfl (by kernel_rfl) (by kernel_rfl) (by kernel_rfl) ?_
                repeat (gi_big_quiet_step (fail))
                refine wpQuietIn_nil ?_
                intro _ hw'
                obtain ⟨nq, hw''⟩ := hw'
                subst hw''
                gi_wp2
                exact ⟨(ko_drewN _ _).trans (KeepsOthers.setCell _ _ _), HNO.out HX.out⟩
            · rintro D ys W hD rfl ⟨hpre, va, vb, hkc, hBW, hM⟩ hK
              exact ⟨.inl rfl, D, ⟨⟨⟨Nat.le_trans hB7.size hD, fun hm => by have := hDb D hm; omega, hD⟩, hK⟩, hM, by rw [← hexl]; exact va, vb, hkc, hBW⟩, rfl⟩
            · rintro D c pre W hD hsp hix hK
              exact absurd hsp hix
          · rintro D W ⟨⟨⟨hD1, hD2, hD3⟩, hK⟩, hM, va, vb, hkc, hBW⟩
            have hmm : Marks W (D :: Ds) := fun D' hD' => by
              rcases List.mem_cons.1 hD' with rfl | hD'
              · exact hK
              · exact hM D' hD'
            have hP8 := HP7.out.keepC hkc hA1 hA2 (by omega) (by omega) vb hD2 hD3 hmm
            have ca := va.cell
            have cpw := hP8.vp.cell
            have cc := hP8.ref.cells
            have c1 := cc.2.1
            have e3 : ((ls.length : Int) != (ls.length : Int)) = false := by simp
            have HP8 := hid hP8; have HBW := hid hBW
            clear hstops hP8 HP7 VA HEX hkc hM hK hmm va vb hBW cc
            go_wp2_with fail
            go_quiet (fail)
            go_wp2_with fail
            refine ⟨?_, ?_⟩
            · rw [HR3.out]
              (repeat apply Exists.intro)
              refine ⟨?_, rfl⟩
              have hls := HLS.out
              exact ⟨kk + 1, D :: Ds, S1', S2', ar', cp', by go_num, by omega, by omega, rfl, by rw [hls]; exact HP8.out.below (below_drewN _ _), HBW.out.trans ((below_drewN _ _).mono HBW.out.size)⟩
            · simp [intOf]; omega
    · have hPI := HPI.out
      have cb := hPI.vb.cell; have fb := hPI.vb.thaw
      clear hPI
      by_cases hkn2 : kk < n
      case' pos => (have i1 : (kk : Int) < (n : Int) := (by omega); have i2 : ¬ (kk : Int) < 100 := (by omega))
      case' neg => have i1 : ¬ (kk : Int) < (n : Int) := by omega
      all_goals
        go_wp2_with fail
        exact leaves_marks (rb := w.heap.size) (t := 4) (fun W' hv => by simp [results, Try.results3, go_sem, hv.cell]) Ds _ (HPI.out.marks.others (KeepsOthers.setCell _ _ _)) HPI.out.nd HPI.out.ge (HPI.out.vb.set _) (HB.out.setCell (p := ⟨w.heap.size, 0, none⟩) (Nat.le_refl _) _)
#print axioms ringPlays_walk
end Go.Proofs.Ytiejgkpjckjonaa
