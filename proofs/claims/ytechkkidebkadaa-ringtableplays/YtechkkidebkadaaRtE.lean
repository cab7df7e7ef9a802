/- Layer 2 (ring): the walk of the law RingTablePlays. -/
import Derived.Test.YtechkkidebkadaaRtS
import Derived.Deep.CutBlock
namespace Go.Proofs.Ytechkkidebkadaa
open Go.RowKit Go.Shelf
set_option linter.unusedVariables false
attribute [local go_sem] Oper.semAt_some

theorem refT_new (w : World) (mo : Int) : RefT (w.alloc (.cells #[.int .i64 mo, .int .i64 0, .slice none 0 0] 56)) (fun k => k = w.heap.size) w.heap.size mo 0 [] (.slice none 0 0) :=
  ⟨heap_alloc_new w _, ⟨World.ownsRow_nil _ _ _ _⟩, rfl, by simp [Value.ownBlock], fun k hk => by simp; omega⟩
theorem wp_cutR {P : Program} {c : Code} {K : Act → World → Prop} {Q : Exit → Act → World → Prop} {a : Act} {w : World} (R : Act → World → Prop) (h1 : c.wp P (Exit.then R (fun _ _ _ => False)) a w) (h2 : ∀ a' w', R a' w' → K a' w') : c.wp P (Exit.then K Q) a w := by
  refine Code.wp_mono ?_ h1
  intro e a' W h
  cases e with
  | normal => exact h2 _ _ h
  | _ => exact h.elim
/-- Whether what was told so far is what there is. -/
def good (ex pre : List (Int × Int)) : Bool := decide (ex.take pre.length = pre)
theorem good_nil (ex : List (Int × Int)) : good ex [] = true := by simp [good]
theorem good_full (ex : List (Int × Int)) : good ex ex = true := by simp [good]
theorem good_snoc {ex pre : List (Int × Int)} {x y : Int × Int} (hy : ex[pre.length]? = some y) : good ex (pre ++ [x]) = (good ex pre && decide (y = x)) := by
  obtain ⟨hl, he⟩ := List.getElem?_eq_some_iff.1 hy
  unfold good
  rw [List.length_append, List.length_singleton, List.take_succ_eq_append_getElem hl, he]
  by_cases h1 : ex.take pre.length = pre
  · rw [h1]
    by_cases h2 : y = x
    · simp [h2]
    · simp [h2]
  · have h3 : ¬ (ex.take pre.length ++ [y] = pre ++ [x]) := fun e => h1 (List.append_inj_left' e rfl)
    simp [h1, h3]
set_option maxRecDepth 100000 in
set_option maxHeartbeats 4000000 in
theorem ringTablePlays_walk (mo0 : Int) (p : Option Addr) (n cap : Nat) (Q I X : Nat → Int) (w : World) (wf : (Lit.int .i64 mo0).wf = true) (h : ArgT w p n cap Q I X) :
    Calls Try.prog 6 #[.int .i64 mo0, .slice p n cap] w fun e w' => e = .returned (.bool true) ∧ Below w.heap.size w w' := by
  have hle := h.le; have hmost := h.most
  unfold maxLen at hmost
  have H := hid h
  clear h wf
  refine (callsIn_wide (n := 9)).1 ?_
  refine callsIn_of_wp_marks Try.func6 rfl trivial ?_ rfl
  simp only [Try.ntmps6, List.size_toArray, List.length_cons, List.length_nil, Nat.reduceAdd, Nat.reduceSub, Array.replicate_succ, Array.replicate_zero, List.push_toArray, List.append_toArray, List.nil_append, List.cons_append]
  refine wpIn_wide.2 ?_
  go_wp2_with fail
  refine (shown_any w).mono ?_; rintro e w1 ⟨rfl, hB1⟩
  obtain ⟨mo, hmo⟩ : ∃ mo : Int, min mo0 60 = mo := ⟨_, rfl⟩
  have hmo6 : mo ≤ 60 := by omega
  obtain ⟨m, hm⟩ : ∃ m : Nat, max mo 1 = (m : Int) := ⟨(max mo 1).toNat, by omega⟩
  go_upto_region 2 with fail
  obtain ⟨R1, hR1⟩ : ∃ R1 : Act → World → Prop, R1 = (fun a' w' => ∃ (u2 u3 u4 u6 u7 u8 u9 u10 u11 u12 u13 u14 u15 u16 u17 u18 u19 u20 u21 u22 u23 u24 u25 u26 u27 u28 u29 u30 u31 u32 u33 u34 u35 u36 u37 u38 u39 u40 u41 u42 u43 u44 u45 u46 u47 u48 u49 u50 u51 u52 u53 u54 u55 u56 u57 u58 u59 u60 u61 u62 u63 u64 u65 u66 u67 u68 u69 u70 u71 u72 u73 u74 u75 u76 u77 u78 u79 u80 u81 u82 u83 u84 u85 u86 u87 u88 u89 u90 u91 u92 u93 u94 u95 u96 u97 u98 u99 u100 u101 u102 u103 u104 u105 u106 u107 u108 u109 u110 u111 u112 u113 u114 u115 u116 u117 u118 u119 u120 u121 u122 u123 u124 u125 u126 u127 u128 u129 u130 u131 u132 u133 u134 u135 u136 u137 u138 u139 u140 u141 u142 u143 u144 u145 u146 u147 u148 u149 u150 u151 u152 u153 u154 u155 u156 u157 u158 u159 u160 u161 u162 u163 u164 u165 u166 u167 u168 u169 u170 u171 u172 u173 u174 u175 u176 u177 u178 u179 u180 u181 u182 u183 u184 u185 u186 u187 u188 u189 u190 u191 u192 u193 u194 u195 u196 u197 u198 u199 u200 u201 u202 : Value) (ds : List Deferred), (ds = [] ∧ w' = w1) ∧ a' = { tmps := #[.int .i64 mo, .slice p n cap, u2, u3, u4, .bool true, u6, u7, u8, u9, u10, u11, u12, u13, u14, u15, u16, u17, u18, u19, u20, u21, u22, u23, u24, u25, u26, u27, u28, u29, u30, u31, u32, u33, u34, u35, u36, u37, u38, u39, u40, u41, u42, u43, u44, u45, u46, u47, u48, u49, u50, u51, u52, u53, u54, u55, u56, u57, u58, u59, u60, u61, u62, u63, u64, u65, u66, u67, u68, u69, u70, u71, u72, u73, u74, u75, u76, u77, u78, u79, u80, u81, u82, u83, u84, u85, u86, u87, u88, u89, u90, u91, u92, u93, u94, u95, u96, u97, u98, u99, u100, u101, u102, u103, u104, u105, u106, u107, u108, u109, u110, u111, u112, u113, u114, u115, u116, u117, u118, u119, u120, u121, u122, u123, u124, u125, u126, u127, u128, u129, u130, u131, u132, u133, u134, u135, u136, u137, u138, u139, u140, u141, u142, u143, u144, u145, u146, u147, u148, u149, u150, u151, u152, u153, u154, u155, u156, u157, u158, u159, u160, u161, u162, u163, u164, u165, u166, u167, u168, u169, u170, u171, u172, u173, u174, u175, u176, u177, u178, u179, u180, u181, u182, u183, u184, u185, u186, u187, u188, u189, u190, u191, u192, u193, u194, u195, u196, u197, u198, u199, u200, u201, u202], defers := ds }) := ⟨_, rfl⟩
  have HR1 := hid hR1
  clear hR1
  refine wp_cutR R1 ?_ ?_
  · rcases (by omega : (60 < mo0 ∧ mo = 60) ∨ (mo0 ≤ 60 ∧ mo0 = mo)) with ⟨k1, rfl⟩ | ⟨k1, rfl⟩
    all_goals
      clear hmo hm
      go_wp2_with fail
      rw [HR1.out]
      (repeat apply Exists.intro)
      refine ⟨?_, rfl⟩
      exact ⟨rfl, rfl⟩
  intro a' w4 hinv
  rw [HR1.out] at hinv
  clear HR1 hmo
  obtain ⟨u2, hinv⟩ := hinv
  obtain ⟨u3, hinv⟩ := hinv
  obtain ⟨u4, hinv⟩ := hinv
  obtain ⟨u6, hinv⟩ := hinv
  obtain ⟨u7, hinv⟩ := hinv
  obtain ⟨u8, hinv⟩ := hinv
  obtain ⟨u9, hinv⟩ := hinv
  obtain ⟨u10, hinv⟩ := hinv
  obtain ⟨u11, hinv⟩ := hinv
  obtain ⟨u12, hinv⟩ := hinv
  obtain ⟨u13, hinv⟩ := hinv
  obtain ⟨u14, hinv⟩ := hinv
  obtain ⟨u15, hinv⟩ := hinv
  obtain ⟨u16, hinv⟩ := hinv
  obtain ⟨u17, hinv⟩ := hinv
  obtain ⟨u18, hinv⟩ := hinv
  obtain ⟨u19, hinv⟩ := hinv
  obtain ⟨u20, hinv⟩ := hinv
  obtain ⟨u21, hinv⟩ := hinv
  obtain ⟨u22, hinv⟩ := hinv
  obtain ⟨u23, hinv⟩ := hinv
  obtain ⟨u24, hinv⟩ := hinv
  obtain ⟨u25, hinv⟩ := hinv
  obtain ⟨u26, hinv⟩ := hinv
  obtain ⟨u27, hinv⟩ := hinv
  obtain ⟨u28, hinv⟩ := hinv
  obtain ⟨u29, hinv⟩ := hinv
  obtain ⟨u30, hinv⟩ := hinv
  obtain ⟨u31, hinv⟩ := hinv
  obtain ⟨u32, hinv⟩ := hinv
  obtain ⟨u33, hinv⟩ := hinv
  obtain ⟨u34, hinv⟩ := hinv
  obtain ⟨u35, hinv⟩ := hinv
  obtain ⟨u36, hinv⟩ := hinv
  obtain ⟨u37, hinv⟩ := hinv
  obtain ⟨u38, hinv⟩ := hinv
  obtain ⟨u39, hinv⟩ := hinv
  obtain ⟨u40, hinv⟩ := hinv
  obtain ⟨u41, hinv⟩ := hinv
  obtain ⟨u42, hinv⟩ := hinv
  obtain ⟨u43, hinv⟩ := hinv
  obtain ⟨u44, hinv⟩ := hinv
  obtain ⟨u45, hinv⟩ := hinv
  obtain ⟨u46, hinv⟩ := hinv
  obtain ⟨u47, hinv⟩ := hinv
  obtain ⟨u48, hinv⟩ := hinv
  obtain ⟨u49, hinv⟩ := hinv
  obtain ⟨u50, hinv⟩ := hinv
  obtain ⟨u51, hinv⟩ := hinv
  obtain ⟨u52, hinv⟩ := hinv
  obtain ⟨u53, hinv⟩ := hinv
  obtain ⟨u54, hinv⟩ := hinv
  obtain ⟨u55, hinv⟩ := hinv
  obtain ⟨u56, hinv⟩ := hinv
  obtain ⟨u57, hinv⟩ := hinv
  obtain ⟨u58, hinv⟩ := hinv
  obtain ⟨u59, hinv⟩ := hinv
  obtain ⟨u60, hinv⟩ := hinv
  obtain ⟨u61, hinv⟩ := hinv
  obtain ⟨u62, hinv⟩ := hinv
  obtain ⟨u63, hinv⟩ := hinv
  obtain ⟨u64, hinv⟩ := hinv
  obtain ⟨u65, hinv⟩ := hinv
  obtain ⟨u66, hinv⟩ := hinv
  obtain ⟨u67, hinv⟩ := hinv
  obtain ⟨u68, hinv⟩ := hinv
  obtain ⟨u69, hinv⟩ := hinv
  obtain ⟨u70, hinv⟩ := hinv
  obtain ⟨u71, hinv⟩ := hinv
  obtain ⟨u72, hinv⟩ := hinv
  obtain ⟨u73, hinv⟩ := hinv
  obtain ⟨u74, hinv⟩ := hinv
  obtain ⟨u75, hinv⟩ := hinv
  obtain ⟨u76, hinv⟩ := hinv
  obtain ⟨u77, hinv⟩ := hinv
  obtain ⟨u78, hinv⟩ := hinv
  obtain ⟨u79, hinv⟩ := hinv
  obtain ⟨u80, hinv⟩ := hinv
  obtain ⟨u81, hinv⟩ := hinv
  obtain ⟨u82, hinv⟩ := hinv
  obtain ⟨u83, hinv⟩ := hinv
  obtain ⟨u84, hinv⟩ := hinv
  obtain ⟨u85, hinv⟩ := hinv
  obtain ⟨u86, hinv⟩ := hinv
  obtain ⟨u87, hinv⟩ := hinv
  obtain ⟨u88, hinv⟩ := hinv
  obtain ⟨u89, hinv⟩ := hinv
  obtain ⟨u90, hinv⟩ := hinv
  obtain ⟨u91, hinv⟩ := hinv
  obtain ⟨u92, hinv⟩ := hinv
  obtain ⟨u93, hinv⟩ := hinv
  obtain ⟨u94, hinv⟩ := hinv
  obtain ⟨u95, hinv⟩ := hinv
  obtain ⟨u96, hinv⟩ := hinv
  obtain ⟨u97, hinv⟩ := hinv
  obtain ⟨u98, hinv⟩ := hinv
  obtain ⟨u99, hinv⟩ := hinv
  obtain ⟨u100, hinv⟩ := hinv
  obtain ⟨u101, hinv⟩ := hinv
  obtain ⟨u102, hinv⟩ := hinv
  obtain ⟨u103, hinv⟩ := hinv
  obtain ⟨u104, hinv⟩ := hinv
  obtain ⟨u105, hinv⟩ := hinv
  obtain ⟨u106, hinv⟩ := hinv
  obtain ⟨u107, hinv⟩ := hinv
  obtain ⟨u108, hinv⟩ := hinv
  obtain ⟨u109, hinv⟩ := hinv
  obtain ⟨u110, hinv⟩ := hinv
  obtain ⟨u111, hinv⟩ := hinv
  obtain ⟨u112, hinv⟩ := hinv
  obtain ⟨u113, hinv⟩ := hinv
  obtain ⟨u114, hinv⟩ := hinv
  obtain ⟨u115, hinv⟩ := hinv
  obtain ⟨u116, hinv⟩ := hinv
  obtain ⟨u117, hinv⟩ := hinv
  obtain ⟨u118, hinv⟩ := hinv
  obtain ⟨u119, hinv⟩ := hinv
  obtain ⟨u120, hinv⟩ := hinv
  obtain ⟨u121, hinv⟩ := hinv
  obtain ⟨u122, hinv⟩ := hinv
  obtain ⟨u123, hinv⟩ := hinv
  obtain ⟨u124, hinv⟩ := hinv
  obtain ⟨u125, hinv⟩ := hinv
  obtain ⟨u126, hinv⟩ := hinv
  obtain ⟨u127, hinv⟩ := hinv
  obtain ⟨u128, hinv⟩ := hinv
  obtain ⟨u129, hinv⟩ := hinv
  obtain ⟨u130, hinv⟩ := hinv
  obtain ⟨u131, hinv⟩ := hinv
  obtain ⟨u132, hinv⟩ := hinv
  obtain ⟨u133, hinv⟩ := hinv
  obtain ⟨u134, hinv⟩ := hinv
  obtain ⟨u135, hinv⟩ := hinv
  obtain ⟨u136, hinv⟩ := hinv
  obtain ⟨u137, hinv⟩ := hinv
  obtain ⟨u138, hinv⟩ := hinv
  obtain ⟨u139, hinv⟩ := hinv
  obtain ⟨u140, hinv⟩ := hinv
  obtain ⟨u141, hinv⟩ := hinv
  obtain ⟨u142, hinv⟩ := hinv
  obtain ⟨u143, hinv⟩ := hinv
  obtain ⟨u144, hinv⟩ := hinv
  obtain ⟨u145, hinv⟩ := hinv
  obtain ⟨u146, hinv⟩ := hinv
  obtain ⟨u147, hinv⟩ := hinv
  obtain ⟨u148, hinv⟩ := hinv
  obtain ⟨u149, hinv⟩ := hinv
  obtain ⟨u150, hinv⟩ := hinv
  obtain ⟨u151, hinv⟩ := hinv
  obtain ⟨u152, hinv⟩ := hinv
  obtain ⟨u153, hinv⟩ := hinv
  obtain ⟨u154, hinv⟩ := hinv
  obtain ⟨u155, hinv⟩ := hinv
  obtain ⟨u156, hinv⟩ := hinv
  obtain ⟨u157, hinv⟩ := hinv
  obtain ⟨u158, hinv⟩ := hinv
  obtain ⟨u159, hinv⟩ := hinv
  obtain ⟨u160, hinv⟩ := hinv
  obtain ⟨u161, hinv⟩ := hinv
  obtain ⟨u162, hinv⟩ := hinv
  obtain ⟨u163, hinv⟩ := hinv
  obtain ⟨u164, hinv⟩ := hinv
  obtain ⟨u165, hinv⟩ := hinv
  obtain ⟨u166, hinv⟩ := hinv
  obtain ⟨u167, hinv⟩ := hinv
  obtain ⟨u168, hinv⟩ := hinv
  obtain ⟨u169, hinv⟩ := hinv
  obtain ⟨u170, hinv⟩ := hinv
  obtain ⟨u171, hinv⟩ := hinv
  obtain ⟨u172, hinv⟩ := hinv
  obtain ⟨u173, hinv⟩ := hinv
  obtain ⟨u174, hinv⟩ := hinv
  obtain ⟨u175, hinv⟩ := hinv
  obtain ⟨u176, hinv⟩ := hinv
  obtain ⟨u177, hinv⟩ := hinv
  obtain ⟨u178, hinv⟩ := hinv
  obtain ⟨u179, hinv⟩ := hinv
  obtain ⟨u180, hinv⟩ := hinv
  obtain ⟨u181, hinv⟩ := hinv
  obtain ⟨u182, hinv⟩ := hinv
  obtain ⟨u183, hinv⟩ := hinv
  obtain ⟨u184, hinv⟩ := hinv
  obtain ⟨u185, hinv⟩ := hinv
  obtain ⟨u186, hinv⟩ := hinv
  obtain ⟨u187, hinv⟩ := hinv
  obtain ⟨u188, hinv⟩ := hinv
  obtain ⟨u189, hinv⟩ := hinv
  obtain ⟨u190, hinv⟩ := hinv
  obtain ⟨u191, hinv⟩ := hinv
  obtain ⟨u192, hinv⟩ := hinv
  obtain ⟨u193, hinv⟩ := hinv
  obtain ⟨u194, hinv⟩ := hinv
  obtain ⟨u195, hinv⟩ := hinv
  obtain ⟨u196, hinv⟩ := hinv
  obtain ⟨u197, hinv⟩ := hinv
  obtain ⟨u198, hinv⟩ := hinv
  obtain ⟨u199, hinv⟩ := hinv
  obtain ⟨u200, hinv⟩ := hinv
  obtain ⟨u201, hinv⟩ := hinv
  obtain ⟨u202, hinv⟩ := hinv
  obtain ⟨ds, ⟨rfl, rfl⟩, ha⟩ := hinv
  subst ha
  go_wp2_with fail
  refine (tabN_new m (by omega) (by omega) mo hm _).mono ?_; rintro e w2 ⟨rfl, hR, b2⟩
  go_wp2_with fail
  have hs1 := hB1.size; have hs2 := b2.size
  have e2 : w4.heap.size < w2.heap.size := hR.lt _ rfl
  have hT0 : TT w.heap.size [w2.heap.size + 1] w ((w2.alloc (.cells #[.int .i64 mo, .int .i64 0, .slice none 0 0] 56)).alloc (.cells #[.pointer (some ⟨w2.heap.size, 0, none⟩)] 53)) w4.heap.size w2.heap.size m mo [] [] 0 0 ∧ Vr ((w2.alloc (.cells #[.int .i64 mo, .int .i64 0, .slice none 0 0] 56)).alloc (.cells #[.pointer (some ⟨w2.heap.size, 0, none⟩)] 53)) (w2.heap.size + 1) 53 (.pointer (some ⟨w2.heap.size, 0, none⟩)) := by
    have q1 : Below w2.heap.size w2 ((w2.alloc (.cells #[.int .i64 mo, .int .i64 0, .slice none 0 0] 56)).alloc (.cells #[.pointer (some ⟨w2.heap.size, 0, none⟩)] 53)) := ((Below.refl _ _).alloc (Nat.le_refl _) _).alloc (by simp) _
    have vp := Vr.new (w2.alloc (.cells #[.int .i64 mo, .int .i64 0, .slice none 0 0] 56)) 53 (.pointer (some ⟨w2.heap.size, 0, none⟩))
    simp only [World.size_alloc] at vp
    refine ⟨⟨⟨fun k => k = w4.heap.size, fun k => k = w2.heap.size, _, hR.below q1, (refT_new w2 mo).below ((Below.refl _ _).alloc (Nat.le_refl _) _), fun k h1 h2 => by omega, fun k h1 => ⟨by omega, by simp; omega⟩, fun k h1 => ⟨by omega, by simp; omega⟩⟩, (((hB1.trans (b2.mono hs1)).trans (q1.mono (by omega)))), by simp; omega, fun k hk => by simp at hk; simp; omega, fun k hk => absurd hk (by simp), fun k hk => absurd hk (by simp)⟩, vp⟩
  have hbs : w.heap.size ≤ w2.heap.size := by omega
  have hm1 : 1 ≤ m := by omega
  have hm2 : m ≤ 60 := by omega
  generalize (w2.alloc (.cells #[.int .i64 mo, .int .i64 0, .slice none 0 0] 56)).alloc (.cells #[.pointer (some ⟨w2.heap.size, 0, none⟩)] 53) = W3 at *
  generalize w4.heap.size = t at *
  generalize w2.heap.size = rb at *
  clear hR b2 hB1 hs1 hs2 e2 w2 w4
  obtain ⟨hT0, hV0⟩ := hT0
  obtain ⟨R3, hR3⟩ : ∃ R3 : Act → World → Prop, R3 = (fun a' w' => ∃ (u0 u2 u3 u4 u8 u9 u10 u11 u12 u13 u14 u15 u16 u17 u18 u19 u20 u21 u22 u23 u24 u25 u26 u27 u28 u29 u30 u31 u32 u33 u34 u35 u36 u37 u38 u39 u40 u41 u42 u43 u44 u45 u46 u47 u48 u49 u50 u51 u52 u53 u54 u55 u56 u57 u58 u59 u60 u61 u62 u63 u64 u65 u66 u67 u68 u69 u70 u71 u72 u73 u74 u75 u76 u77 u78 u79 u80 u81 u82 u83 u84 u85 u86 u87 u88 u89 u90 u91 u92 u93 u94 u95 u96 u97 u98 u99 u100 u101 u102 u103 u104 u105 u106 u107 u108 u109 u110 u111 u112 u113 u114 u115 u116 u117 u118 u119 u120 u121 u122 u123 u124 u125 u126 u127 u128 u129 u130 u131 u132 u133 u134 u135 u136 u137 u138 u139 u140 u141 u142 u143 u144 u145 u146 u147 u148 u149 u150 u151 u152 u153 u154 u155 u156 u157 u158 u159 u160 u161 u162 u163 u164 u165 u166 u167 u168 u169 u170 u171 u172 u173 u174 u175 u176 u177 u178 u179 u180 u181 u182 u183 u184 u185 u186 u187 u188 u189 u190 u191 u192 u193 u194 u195 u196 u197 u198 u199 u200 u201 u202 : Value) (ds : List Deferred), (∃ (kk : Nat) (Ds : List Nat) (es : List (Nat × Value)) (L : Nat), u8 = .int .i64 kk ∧ kk ≤ n ∧ kk ≤ 100 ∧ ds = Ds.map mark ∧ TT w.heap.size ((rb + 1) :: Ds) w w' t rb m mo es es L L ∧ Vr w' (rb + 1) 53 (.pointer (some ⟨rb, 0, none⟩)) ∧ Marks w' Ds ∧ Ds.Nodup ∧ (∀ D ∈ Ds, w.heap.size ≤ D) ∧ L ≤ kk) ∧ a' = { tmps := #[u0, .slice p n cap, u2, u3, u4, .bool true, .pointer (some ⟨t, 0, none⟩), .pointer (some ⟨rb + 1, 0, none⟩), u8, u9, u10, u11, u12, u13, u14, u15, u16, u17, u18, u19, u20, u21, u22, u23, u24, u25, u26, u27, u28, u29, u30, u31, u32, u33, u34, u35, u36, u37, u38, u39, u40, u41, u42, u43, u44, u45, u46, u47, u48, u49, u50, u51, u52, u53, u54, u55, u56, u57, u58, u59, u60, u61, u62, u63, u64, u65, u66, u67, u68, u69, u70, u71, u72, u73, u74, u75, u76, u77, u78, u79, u80, u81, u82, u83, u84, u85, u86, u87, u88, u89, u90, u91, u92, u93, u94, u95, u96, u97, u98, u99, u100, u101, u102, u103, u104, u105, u106, u107, u108, u109, u110, u111, u112, u113, u114, u115, u116, u117, u118, u119, u120, u121, u122, u123, u124, u125, u126, u127, u128, u129, u130, u131, u132, u133, u134, u135, u136, u137, u138, u139, u140, u141, u142, u143, u144, u145, u146, u147, u148, u149, u150, u151, u152, u153, u154, u155, u156, u157, u158, u159, u160, u161, u162, u163, u164, u165, u166, u167, u168, u169, u170, u171, u172, u173, u174, u175, u176, u177, u178, u179, u180, u181, u182, u183, u184, u185, u186, u187, u188, u189, u190, u191, u192, u193, u194, u195, u196, u197, u198, u199, u200, u201, u202], defers := ds }) := ⟨_, rfl⟩
  have HR3 := hid hR3
  clear hR3
  refine wp_loop R3 (fun a' _ => 100 - (intOf (a'.tmps.getD 8 undef)).toNat) ?_ ?_
  · rw [HR3.out]
    (repeat apply Exists.intro)
    refine ⟨?_, rfl⟩
    exact ⟨0, [], [], 0, rfl, by omega, by omega, rfl, hT0, hV0, fun D hD => absurd hD (by simp), List.nodup_nil, fun D hD => absurd hD (by simp), Nat.le_refl _⟩
  · clear hT0 hV0
    intro a' wq hinv
    rw [HR3.out] at hinv
    obtain ⟨u0, hinv⟩ := hinv
    obtain ⟨u2, hinv⟩ := hinv
    obtain ⟨u3, hinv⟩ := hinv
    obtain ⟨u4, hinv⟩ := hinv
    obtain ⟨u8, hinv⟩ := hinv
    obtain ⟨u9, hinv⟩ := hinv
    obtain ⟨u10, hinv⟩ := hinv
    obtain ⟨u11, hinv⟩ := hinv
    obtain ⟨u12, hinv⟩ := hinv
    obtain ⟨u13, hinv⟩ := hinv
    obtain ⟨u14, hinv⟩ := hinv
    obtain ⟨u15, hinv⟩ := hinv
    obtain ⟨u16, hinv⟩ := hinv
    obtain ⟨u17, hinv⟩ := hinv
    obtain ⟨u18, hinv⟩ := hinv
    obtain ⟨u19, hinv⟩ := hinv
    obtain ⟨u20, hinv⟩ := hinv
    obtain ⟨u21, hinv⟩ := hinv
    obtain ⟨u22, hinv⟩ := hinv
    obtain ⟨u23, hinv⟩ := hinv
    obtain ⟨u24, hinv⟩ := hinv
    obtain ⟨u25, hinv⟩ := hinv
    obtain ⟨u26, hinv⟩ := hinv
    obtain ⟨u27, hinv⟩ := hinv
    obtain ⟨u28, hinv⟩ := hinv
    obtain ⟨u29, hinv⟩ := hinv
    obtain ⟨u30, hinv⟩ := hinv
    obtain ⟨u31, hinv⟩ := hinv
    obtain ⟨u32, hinv⟩ := hinv
    obtain ⟨u33, hinv⟩ := hinv
    obtain ⟨u34, hinv⟩ := hinv
    obtain ⟨u35, hinv⟩ := hinv
    obtain ⟨u36, hinv⟩ := hinv
    obtain ⟨u37, hinv⟩ := hinv
    obtain ⟨u38, hinv⟩ := hinv
    obtain ⟨u39, hinv⟩ := hinv
    obtain ⟨u40, hinv⟩ := hinv
    obtain ⟨u41, hinv⟩ := hinv
    obtain ⟨u42, hinv⟩ := hinv
    obtain ⟨u43, hinv⟩ := hinv
    obtain ⟨u44, hinv⟩ := hinv
    obtain ⟨u45, hinv⟩ := hinv
    obtain ⟨u46, hinv⟩ := hinv
    obtain ⟨u47, hinv⟩ := hinv
    obtain ⟨u48, hinv⟩ := hinv
    obtain ⟨u49, hinv⟩ := hinv
    obtain ⟨u50, hinv⟩ := hinv
    obtain ⟨u51, hinv⟩ := hinv
    obtain ⟨u52, hinv⟩ := hinv
    obtain ⟨u53, hinv⟩ := hinv
    obtain ⟨u54, hinv⟩ := hinv
    obtain ⟨u55, hinv⟩ := hinv
    obtain ⟨u56, hinv⟩ := hinv
    obtain ⟨u57, hinv⟩ := hinv
    obtain ⟨u58, hinv⟩ := hinv
    obtain ⟨u59, hinv⟩ := hinv
    obtain ⟨u60, hinv⟩ := hinv
    obtain ⟨u61, hinv⟩ := hinv
    obtain ⟨u62, hinv⟩ := hinv
    obtain ⟨u63, hinv⟩ := hinv
    obtain ⟨u64, hinv⟩ := hinv
    obtain ⟨u65, hinv⟩ := hinv
    obtain ⟨u66, hinv⟩ := hinv
    obtain ⟨u67, hinv⟩ := hinv
    obtain ⟨u68, hinv⟩ := hinv
    obtain ⟨u69, hinv⟩ := hinv
    obtain ⟨u70, hinv⟩ := hinv
    obtain ⟨u71, hinv⟩ := hinv
    obtain ⟨u72, hinv⟩ := hinv
    obtain ⟨u73, hinv⟩ := hinv
    obtain ⟨u74, hinv⟩ := hinv
    obtain ⟨u75, hinv⟩ := hinv
    obtain ⟨u76, hinv⟩ := hinv
    obtain ⟨u77, hinv⟩ := hinv
    obtain ⟨u78, hinv⟩ := hinv
    obtain ⟨u79, hinv⟩ := hinv
    obtain ⟨u80, hinv⟩ := hinv
    obtain ⟨u81, hinv⟩ := hinv
    obtain ⟨u82, hinv⟩ := hinv
    obtain ⟨u83, hinv⟩ := hinv
    obtain ⟨u84, hinv⟩ := hinv
    obtain ⟨u85, hinv⟩ := hinv
    obtain ⟨u86, hinv⟩ := hinv
    obtain ⟨u87, hinv⟩ := hinv
    obtain ⟨u88, hinv⟩ := hinv
    obtain ⟨u89, hinv⟩ := hinv
    obtain ⟨u90, hinv⟩ := hinv
    obtain ⟨u91, hinv⟩ := hinv
    obtain ⟨u92, hinv⟩ := hinv
    obtain ⟨u93, hinv⟩ := hinv
    obtain ⟨u94, hinv⟩ := hinv
    obtain ⟨u95, hinv⟩ := hinv
    obtain ⟨u96, hinv⟩ := hinv
    obtain ⟨u97, hinv⟩ := hinv
    obtain ⟨u98, hinv⟩ := hinv
    obtain ⟨u99, hinv⟩ := hinv
    obtain ⟨u100, hinv⟩ := hinv
    obtain ⟨u101, hinv⟩ := hinv
    obtain ⟨u102, hinv⟩ := hinv
    obtain ⟨u103, hinv⟩ := hinv
    obtain ⟨u104, hinv⟩ := hinv
    obtain ⟨u105, hinv⟩ := hinv
    obtain ⟨u106, hinv⟩ := hinv
    obtain ⟨u107, hinv⟩ := hinv
    obtain ⟨u108, hinv⟩ := hinv
    obtain ⟨u109, hinv⟩ := hinv
    obtain ⟨u110, hinv⟩ := hinv
    obtain ⟨u111, hinv⟩ := hinv
    obtain ⟨u112, hinv⟩ := hinv
    obtain ⟨u113, hinv⟩ := hinv
    obtain ⟨u114, hinv⟩ := hinv
    obtain ⟨u115, hinv⟩ := hinv
    obtain ⟨u116, hinv⟩ := hinv
    obtain ⟨u117, hinv⟩ := hinv
    obtain ⟨u118, hinv⟩ := hinv
    obtain ⟨u119, hinv⟩ := hinv
    obtain ⟨u120, hinv⟩ := hinv
    obtain ⟨u121, hinv⟩ := hinv
    obtain ⟨u122, hinv⟩ := hinv
    obtain ⟨u123, hinv⟩ := hinv
    obtain ⟨u124, hinv⟩ := hinv
    obtain ⟨u125, hinv⟩ := hinv
    obtain ⟨u126, hinv⟩ := hinv
    obtain ⟨u127, hinv⟩ := hinv
    obtain ⟨u128, hinv⟩ := hinv
    obtain ⟨u129, hinv⟩ := hinv
    obtain ⟨u130, hinv⟩ := hinv
    obtain ⟨u131, hinv⟩ := hinv
    obtain ⟨u132, hinv⟩ := hinv
    obtain ⟨u133, hinv⟩ := hinv
    obtain ⟨u134, hinv⟩ := hinv
    obtain ⟨u135, hinv⟩ := hinv
    obtain ⟨u136, hinv⟩ := hinv
    obtain ⟨u137, hinv⟩ := hinv
    obtain ⟨u138, hinv⟩ := hinv
    obtain ⟨u139, hinv⟩ := hinv
    obtain ⟨u140, hinv⟩ := hinv
    obtain ⟨u141, hinv⟩ := hinv
    obtain ⟨u142, hinv⟩ := hinv
    obtain ⟨u143, hinv⟩ := hinv
    obtain ⟨u144, hinv⟩ := hinv
    obtain ⟨u145, hinv⟩ := hinv
    obtain ⟨u146, hinv⟩ := hinv
    obtain ⟨u147, hinv⟩ := hinv
    obtain ⟨u148, hinv⟩ := hinv
    obtain ⟨u149, hinv⟩ := hinv
    obtain ⟨u150, hinv⟩ := hinv
    obtain ⟨u151, hinv⟩ := hinv
    obtain ⟨u152, hinv⟩ := hinv
    obtain ⟨u153, hinv⟩ := hinv
    obtain ⟨u154, hinv⟩ := hinv
    obtain ⟨u155, hinv⟩ := hinv
    obtain ⟨u156, hinv⟩ := hinv
    obtain ⟨u157, hinv⟩ := hinv
    obtain ⟨u158, hinv⟩ := hinv
    obtain ⟨u159, hinv⟩ := hinv
    obtain ⟨u160, hinv⟩ := hinv
    obtain ⟨u161, hinv⟩ := hinv
    obtain ⟨u162, hinv⟩ := hinv
    obtain ⟨u163, hinv⟩ := hinv
    obtain ⟨u164, hinv⟩ := hinv
    obtain ⟨u165, hinv⟩ := hinv
    obtain ⟨u166, hinv⟩ := hinv
    obtain ⟨u167, hinv⟩ := hinv
    obtain ⟨u168, hinv⟩ := hinv
    obtain ⟨u169, hinv⟩ := hinv
    obtain ⟨u170, hinv⟩ := hinv
    obtain ⟨u171, hinv⟩ := hinv
    obtain ⟨u172, hinv⟩ := hinv
    obtain ⟨u173, hinv⟩ := hinv
    obtain ⟨u174, hinv⟩ := hinv
    obtain ⟨u175, hinv⟩ := hinv
    obtain ⟨u176, hinv⟩ := hinv
    obtain ⟨u177, hinv⟩ := hinv
    obtain ⟨u178, hinv⟩ := hinv
    obtain ⟨u179, hinv⟩ := hinv
    obtain ⟨u180, hinv⟩ := hinv
    obtain ⟨u181, hinv⟩ := hinv
    obtain ⟨u182, hinv⟩ := hinv
    obtain ⟨u183, hinv⟩ := hinv
    obtain ⟨u184, hinv⟩ := hinv
    obtain ⟨u185, hinv⟩ := hinv
    obtain ⟨u186, hinv⟩ := hinv
    obtain ⟨u187, hinv⟩ := hinv
    obtain ⟨u188, hinv⟩ := hinv
    obtain ⟨u189, hinv⟩ := hinv
    obtain ⟨u190, hinv⟩ := hinv
    obtain ⟨u191, hinv⟩ := hinv
    obtain ⟨u192, hinv⟩ := hinv
    obtain ⟨u193, hinv⟩ := hinv
    obtain ⟨u194, hinv⟩ := hinv
    obtain ⟨u195, hinv⟩ := hinv
    obtain ⟨u196, hinv⟩ := hinv
    obtain ⟨u197, hinv⟩ := hinv
    obtain ⟨u198, hinv⟩ := hinv
    obtain ⟨u199, hinv⟩ := hinv
    obtain ⟨u200, hinv⟩ := hinv
    obtain ⟨u201, hinv⟩ := hinv
    obtain ⟨u202, hinv⟩ := hinv
    obtain ⟨ds, ⟨kk, Ds, es, L, rfl, hkn, hkk, rfl, hT, hV, hM, hnd, hge, hLk⟩, ha⟩ := hinv
    subst ha
    by_cases hkl : kk < n ∧ kk < 100
    · have j1 : (kk : Int) < (n : Int) := by omega
      have j2 : (kk : Int) < 100 := by omega
      obtain ⟨ab, ao, rfl, hab, hcs⟩ := (ArgT.keep H.out hT.bel).at (i := kk) (by omega)
      obtain ⟨c1, c2, c3⟩ := hcs kk (by omega)
      obtain ⟨q, hq⟩ : ∃ q, Q kk = q := ⟨_, rfl⟩
      obtain ⟨id, hidE⟩ : ∃ id, I kk = id := ⟨_, rfl⟩
      obtain ⟨x, hxE⟩ : ∃ x, X kk = x := ⟨_, rfl⟩
      rw [hq] at c1; rw [hidE] at c2; rw [hxE] at c3
      have HT := hid hT; have HV := hid hV; have HM := hid hM
      have cw := (hV.alloc (.cells #[.int .i64 q, .int .i64 id, .int .i64 x] 58)).cell
      clear hcs hq hidE hxE hT hV hM
      go_wp2_with fail
      have hT1 := HT.out.alloc (.cells #[.int .i64 q, .int .i64 id, .int .i64 x] 58)
      have hS1 := heap_alloc_new wq (.cells #[.int .i64 q, .int .i64 id, .int .i64 x] 58)
      have v1 := HV.out.alloc (.cells #[.int .i64 q, .int .i64 id, .int .i64 x] 58)
      have m1 : Marks (wq.alloc (.cells #[.int .i64 q, .int .i64 id, .int .i64 x] 58)) Ds := HM.out.below ((Below.refl _ _).alloc (Nat.le_refl _) _)
      have hbsw : w.heap.size ≤ wq.heap.size := HT.out.le
      clear HT HV HM cw c1 c2 c3
      generalize wq.alloc (.cells #[.int .i64 q, .int .i64 id, .int .i64 x] 58) = W1 at *
      generalize wq.heap.size = bs at *
      obtain ⟨S1, v, hRef, _⟩ := hT1.ref
      refine (refFind S1 rb L mo es v id W1 hRef hT1.n1).mono ?_; rintro e w5 ⟨⟨r, rfl, hpl⟩, hb5⟩
      obtain ⟨hT5, k5⟩ := hT1.quiet hb5
      have hS5 := (k5 bs (by simp)).trans hS1
      have v5 := v1.kx k5 (by simp)
      have m5 := m1.kx k5 (fun D hD => by simp [hD])
      clear hRef hb5 k5 hS1 v1 m1
      have hST : Sta w.heap.size w5.heap.size bs (rb + 1) Ds w (w5.alloc (.cells #[.bool true] 4)) t rb m mo q id x es es L L true :=
        ⟨hT5.alloc _, v5.alloc _, by rw [Below.heap_alloc _ _ _ (hT5.xl bs (by simp))]; exact hS5, Vr.new w5 _ _, m5.below ((Below.refl _ _).alloc (Nat.le_refl _) _)⟩
      have hbo : w.heap.size ≤ w5.heap.size := hT5.le
      obtain ⟨W6, hW6⟩ : ∃ W6, w5.alloc (.cells #[.bool true] 4) = W6 := ⟨_, rfl⟩
      obtain ⟨bok, hbok⟩ : ∃ bok, w5.heap.size = bok := ⟨_, rfl⟩
      rw [hW6, hbok] at hST
      rw [hbok] at hbo
      obtain ⟨c0, c1, c2, c3, c4, c5⟩ := hST.cells
      clear hT5 hS5 v5 m5 hT1
      have HST := hid hST; have HPL := hid hpl
      clear hST hpl
      dsimp only
      go_upto_block 2 with fail
      clear hW6 hbok
      obtain ⟨R2, hR2⟩ : ∃ R2 : Act → World → Prop, R2 = (fun a' w' => ∃ (u0 u2 u3 u4 u9 u10 u12 u13 u14 u15 u16 u17 u18 u19 u20 u21 u22 u23 u24 u25 u26 u27 u28 u29 u30 u31 u32 u33 u34 u35 u36 u37 u38 u39 u40 u41 u42 u43 u44 u45 u46 u47 u48 u49 u50 u51 u52 u53 u54 u55 u56 u57 u58 u59 u60 u61 u62 u63 u64 u65 u66 u67 u68 u69 u70 u71 u72 u73 u74 u75 u76 u77 u78 u79 u80 u81 u82 u83 u84 u85 u86 u87 u88 u89 u90 u91 u92 u93 u94 u95 u96 u97 u98 u99 u100 u101 u102 u103 u104 u105 u106 u107 u108 u109 u110 u111 u112 u113 u114 u115 u116 u117 u118 u119 u120 u121 u122 u123 u124 u125 u126 u127 u128 u129 u130 u131 u132 u133 u134 u135 u136 u137 u138 u139 u140 u141 u142 u143 u144 u145 u146 u147 u148 u149 u150 u151 u152 u153 u154 u155 u156 u157 u158 u159 u160 u161 u162 u163 u164 u165 u166 u167 u168 u169 u170 u171 u172 u173 u174 u175 u176 u177 u178 u179 u180 u181 u182 u183 u184 u185 u186 u187 u188 u189 u190 u191 u192 u193 u194 u195 u196 u197 u198 u199 u200 u201 u202 : Value) (ds : List Deferred), (∃ (es' : List (Nat × Value)) (L' : Nat), ds = Ds.map mark ∧ Sta w.heap.size bok bs (rb + 1) Ds w w' t rb m mo q id x es' es' L' L' true ∧ L' ≤ kk + 1) ∧ a' = { tmps := #[u0, .slice (some ⟨ab, ao, none⟩) n cap, u2, u3, u4, .bool true, .pointer (some ⟨t, 0, none⟩), .pointer (some ⟨rb + 1, 0, none⟩), .int .i64 kk, u9, u10, .pointer (some ⟨bok, 0, none⟩), u12, u13, u14, u15, u16, u17, u18, u19, u20, u21, u22, u23, u24, u25, u26, u27, u28, u29, u30, u31, u32, u33, u34, u35, u36, u37, u38, u39, u40, u41, u42, u43, u44, u45, u46, u47, u48, u49, u50, u51, u52, u53, u54, u55, u56, u57, u58, u59, u60, u61, u62, u63, u64, u65, u66, u67, u68, u69, u70, u71, u72, u73, u74, u75, u76, u77, u78, u79, u80, u81, u82, u83, u84, u85, u86, u87, u88, u89, u90, u91, u92, u93, u94, u95, u96, u97, u98, u99, u100, u101, u102, u103, u104, u105, u106, u107, u108, u109, u110, u111, u112, u113, u114, u115, u116, u117, u118, u119, u120, u121, u122, u123, u124, u125, u126, u127, u128, u129, u130, u131, u132, u133, u134, u135, u136, u137, u138, u139, u140, u141, u142, u143, u144, u145, u146, u147, u148, u149, u150, u151, u152, u153, u154, u155, u156, u157, u158, u159, u160, u161, u162, u163, u164, u165, u166, u167, u168, u169, u170, u171, u172, u173, u174, u175, u176, u177, u178, u179, u180, u181, u182, u183, u184, u185, u186, u187, u188, u189, u190, u191, u192, u193, u194, u195, u196, u197, u198, u199, u200, u201, u202], defers := ds }) := ⟨_, rfl⟩
      have HR2 := hid hR2
      clear hR2
      refine wp_cutR R2 ?_ ?_
      · have hST := HST.out
        have hfa := hST.facts
        rcases (by omega : q = 1 ∨ q = 2 ∨ q = 3 ∨ q = 4 ∨ (q ≠ 1 ∧ q ≠ 2 ∧ q ≠ 3 ∧ q ≠ 4)) with rfl | rfl | rfl | rfl | ⟨n1, n2, n3, n4⟩
        · as_aux_lemma =>
            have hadd : ∃ (a e : Int) (es' : List (Nat × Value)) (L' : Nat), L' ≤ kk + 1 ∧ (Calls Try.prog 23 #[.pointer (some ⟨t, 0, none⟩), .int .i64 x] W6 fun e' W' => e' = .returned (.tuple #[.int .i64 a, .int .i64 e]) ∧ Sta w.heap.size bok bs (rb + 1) Ds w W' t rb m mo 1 id x es' es L' L true) ∧
                ∀ W7, Sta w.heap.size bok bs (rb + 1) Ds w W7 t rb m mo 1 id x es' es L' L true → Calls Try.prog 26 #[.pointer (some ⟨rb, 0, none⟩), .int .i64 x] W7 fun e' W' => e' = .returned (.tuple #[.int .i64 a, .int .i64 e]) ∧ Sta w.heap.size bok bs (rb + 1) Ds w W' t rb m mo 1 id x es' es' L' L' true := by
              by_cases hf : es.length < m
              · exact ⟨_, _, _, _, by omega, hST.add_room hf (by omega) x, fun W7 h7 => h7.radd_room hm hf (by omega) (by omega) x⟩
              · exact ⟨_, _, _, _, by omega, hST.add_full (by omega) x, fun W7 h7 => h7.radd_full hm (by omega) x⟩
            obtain ⟨a, e, es', L', hL', hA, hB⟩ := hadd
            have HB := hid hB
            clear hST HST HPL hfa hB
            go_wp2_with fail
            refine hA.mono ?_; rintro e' w7 ⟨rfl, h7⟩
            dsimp only
            obtain ⟨c0, c1, c2, c3, c4, c5⟩ := h7.cells
            have hB := HB.out w7 h7
            clear hA h7 HB
            go_wp2_with fail
            refine hB.mono ?_; rintro e' w8 ⟨rfl, h8⟩
            dsimp only
            obtain ⟨c0, c1, c2, c3, c4, c5⟩ := h8.cells
            have H8 := hid (h8.setOk hbo true)
            clear hB h8
            go_wp2_with fail
            rw [HR2.out]
            (repeat apply Exists.intro)
            refine ⟨?_, rfl⟩
            exact ⟨es', L', rfl, H8.out, hL'⟩
        · as_aux_lemma =>
            rcases there_or (es := es) id with ⟨k, hk, he⟩ | hno
            · obtain rfl := place_yes HPL.out hfa.1 hk he
              obtain ⟨y, hy⟩ := hST.tt.n0 k hk
              have hG := hST.get_yes hk he
              rw [hy] at hG
              have i1 : (0 : Int) ≤ (k : Int) := by omega
              have i2 : (k : Int) < (es.length : Int) := by omega
              have i3 : ¬ (0 : Int) > (k : Int) := by omega
              have i4 : ¬ (k : Int) < 0 := by omega
              clear hST HST HPL
              go_wp2_with fail
              refine hG.mono ?_; rintro e' w7 ⟨rfl, h7⟩
              dsimp only
              obtain ⟨c0, c1, c2, c3, c4, c5⟩ := h7.cells
              obtain ⟨g, cp, l2, hl, hmx, l0, l1⟩ := h7.look hk
              rw [hy] at l1
              unfold maxLen at hmx
              have H8 := hid (h7.setOk hbo true)
              clear hG h7 hy l0 he hfa
              go_wp2_with fail
              rw [HR2.out]
              (repeat apply Exists.intro)
              refine ⟨?_, rfl⟩
              exact ⟨es, L, rfl, H8.out, by omega⟩
            · obtain rfl := place_no HPL.out hno
              have hG := hST.get_no hno
              clear hST HST HPL
              go_wp2_with fail
              refine hG.mono ?_; rintro e' w7 ⟨rfl, h7⟩
              dsimp only
              obtain ⟨c0, c1, c2, c3, c4, c5⟩ := h7.cells
              have H8 := hid (h7.setOk hbo true)
              clear hG h7 hno hfa
              go_wp2_with fail
              rw [HR2.out]
              (repeat apply Exists.intro)
              refine ⟨?_, rfl⟩
              exact ⟨es, L, rfl, H8.out, by omega⟩
        · as_aux_lemma =>
            rcases there_or (es := es) id with ⟨k, hk, he⟩ | hno
            · obtain rfl := place_yes HPL.out hfa.1 hk he
              have hG := hST.put_yes hk he x
              have i1 : (0 : Int) ≤ (k : Int) := by omega
              have i2 : (k : Int) < (es.length : Int) := by omega
              clear hST HST HPL
              go_wp2_with fail
              refine hG.mono ?_; rintro e' w7 ⟨rfl, h7⟩
              dsimp only
              obtain ⟨c0, c1, c2, c3, c4, c5⟩ := h7.cells
              have h8 := h7.setOk hbo true
              clear hG h7 he hfa
              go_wp2_with fail
              generalize w7.setCell ⟨bok, 0, none⟩ (.bool true) = W8 at *
              clear c0 c1 c2 c3 c4 c5
              obtain ⟨c0, c1, c2, c3, c4, c5⟩ := h8.cells
              obtain ⟨g, cp, l2, hl, hmx, ⟨y0, hy0⟩, hz, h9⟩ := h8.setX hk x
              unfold maxLen at hmx
              have b0 : rb + 1 < W8.heap.size := h8.vw.lt
              have b1 : bs < W8.heap.size := h8.tt.xl bs (by simp)
              have b2 : rb < W8.heap.size := by omega
              have k0 : ∀ w', Below W8.heap.size W8 w' → w'.cell? ⟨rb + 1, 0, none⟩ = some (.pointer (some ⟨rb, 0, none⟩)) := fun w' hb => (hb.cell (p := ⟨rb + 1, 0, none⟩) b0).trans c0
              have k1 : ∀ w', Below W8.heap.size W8 w' → w'.cell? ⟨bs, 2, none⟩ = some (.int .i64 x) := fun w' hb => (hb.cell (p := ⟨bs, 2, none⟩) b1).trans c3
              have k2 : ∀ w', Below W8.heap.size W8 w' → w'.cell? ⟨rb, 2, none⟩ = some (.slice (some ⟨g, 0, none⟩) es.length cp) := fun w' hb => (hb.cell (p := ⟨rb, 2, none⟩) b2).trans l2
              have H9 := hid h9
              clear h8 h9 c0 c1 c2 c3 c4 c5 l2
              refine region_Z (fun w' => Below W8.heap.size W8 w') 9 10 rfl (by kernel_rfl) (below_drewN W8 1) ?_
              intro hHeld
              refine takeZ 0 (some 125) (v := ?v38) rfl rfl (by kernel_rfl) (by kernel_rfl) (by kernel_rfl) (by kernel_rfl) (Or.inl ⟨by rfl, ?y38⟩) hHeld ?r38
              case y38 => (intro w' hSw; (try dsimp only at hSw); go_simp; try with_reducible rfl)
              try simp only [Act.put, List.setIfInBounds_toArray, List.set_cons_zero, List.set_cons_succ]
              refine takeZ 1 (some 126) (v := ?v39) rfl rfl (by kernel_rfl) (by kernel_rfl) (by kernel_rfl) (by kernel_rfl) (Or.inl ⟨by rfl, ?y39⟩) hHeld ?r39
              case y39 => (intro w' hSw; (try dsimp only at hSw); go_simp; try with_reducible rfl)
              try simp only [Act.put, List.setIfInBounds_toArray, List.set_cons_zero, List.set_cons_succ]
              refine takeZ 2 (some 127) (v := ?v40) rfl rfl (by kernel_rfl) (by kernel_rfl) (by kernel_rfl) (by kernel_rfl) (Or.inl ⟨by rfl, ?y40⟩) hHeld ?r40
              case y40 => (intro w' hSw; (try dsimp only at hSw); go_simp; try with_reducible rfl)
              try simp only [Act.put, List.setIfInBounds_toArray, List.set_cons_zero, List.set_cons_succ]
              refine takeZ 3 (some 128) (v := ?v41) rfl rfl (by kernel_rfl) (by kernel_rfl) (by kernel_rfl) (by kernel_rfl) (Or.inl ⟨by rfl, ?y41⟩) hHeld ?r41
              case y41 => (intro w' hSw; (try dsimp only at hSw); go_simp; try with_reducible rfl)
              try simp only [Act.put, List.setIfInBounds_toArray, List.set_cons_zero, List.set_cons_succ]
              refine takeZ 4 (some 129) (v := ?v42) rfl rfl (by kernel_rfl) (by kernel_rfl) (by kernel_rfl) (by kernel_rfl) (Or.inl ⟨by rfl, ?y42⟩) hHeld ?r42
              case y42 => (intro w' hSw; (try dsimp only at hSw); go_simp; try with_reducible rfl)
              try simp only [Act.put, List.setIfInBounds_toArray, List.set_cons_zero, List.set_cons_succ]
              refine takeZ 5 (some 130) (v := ?v43) rfl rfl (by kernel_rfl) (by kernel_rfl) (by kernel_rfl) (by kernel_rfl) (Or.inl ⟨by rfl, ?y43⟩) hHeld ?r43
              case y43 => (intro w' hSw; (try dsimp only at hSw); go_simp; try with_reducible rfl)
              try simp only [Act.put, List.setIfInBounds_toArray, List.set_cons_zero, List.set_cons_succ]
              refine takeZ 6 (some 131) (v := ?v44) rfl rfl (by kernel_rfl) (by kernel_rfl) (by kernel_rfl) (by kernel_rfl) (Or.inl ⟨by rfl, ?y44⟩) hHeld ?r44
              case y44 => (intro w' hSw; (try dsimp only at hSw); go_simp; try with_reducible rfl)
              try simp only [Act.put, List.setIfInBounds_toArray, List.set_cons_zero, List.set_cons_succ]
              refine wpAnyZ_ready (rs := [7]) (by kernel_rfl) (by simp) ?_
              refine AllReadyZ.cons rfl (fun K hK => ?_) AllReadyZ.nil
              go_simp
              refine hK.out _ _ (below_drewN W8 1) (fun hHeld => ?_)
              clear hK K
              refine takeZ 8 (some 133) (v := ?v45) rfl rfl (by kernel_rfl) (by kernel_rfl) (by kernel_rfl) (by kernel_rfl) (Or.inl ⟨by rfl, ?y45⟩) hHeld ?r45
              case y45 => (intro w' hSw; (try dsimp only at hSw); go_simp; try with_reducible rfl)
              try simp only [Act.put, List.setIfInBounds_toArray, List.set_cons_zero, List.set_cons_succ]
              refine wpAnyZ_ready (rs := [9]) (by kernel_rfl) (by simp) ?_
              refine AllReadyZ.last rfl (fun K hK => ?_)
              go_simp
              refine hK.out _ _ ?_
              clear hK K
              refine wpAnyZ_done (by kernel_rfl) (Only.on ?_) _
              go_wp2_with fail
              rw [HR2.out]
              (repeat apply Exists.intro)
              refine ⟨?_, rfl⟩
              exact ⟨_, L, rfl, H9.out.quiet (below_drewN _ 1), by omega⟩
            · obtain rfl := place_no HPL.out hno
              have hG := hST.put_no hno x
              clear hST HST HPL
              go_wp2_with fail
              refine hG.mono ?_; rintro e' w7 ⟨rfl, h7⟩
              dsimp only
              obtain ⟨c0, c1, c2, c3, c4, c5⟩ := h7.cells
              have H8 := hid (h7.setOk hbo true)
              clear hG h7 hno hfa
              go_wp2_with fail
              rw [HR2.out]
              (repeat apply Exists.intro)
              refine ⟨?_, rfl⟩
              exact ⟨es, L, rfl, H8.out, by omega⟩
        · as_aux_lemma =>
            have hdrop : ∃ (b : Bool) (es' : List (Nat × Value)), (∀ W fs, Sta w.heap.size bok bs (rb + 1) Ds w W t rb m mo 4 id x es fs L L true → Calls Try.prog 29 #[.pointer (some ⟨t, 0, none⟩), .int .i64 id] W fun e' W' => e' = .returned (.bool b) ∧ Sta w.heap.size bok bs (rb + 1) Ds w W' t rb m mo 4 id x es' fs L L true) ∧
                ∀ W fs, Sta w.heap.size bok bs (rb + 1) Ds w W t rb m mo 4 id x fs es L L true → Calls Try.prog 30 #[.pointer (some ⟨rb, 0, none⟩), .int .i64 id] W fun e' W' => e' = .returned (.bool b) ∧ Sta w.heap.size bok bs (rb + 1) Ds w W' t rb m mo 4 id x fs es' L L true := by
              rcases there_or (es := es) id with ⟨k, hk, he⟩ | hno
              · exact ⟨_, _, fun W fs h => h.drop_yes hk he, fun W fs h => h.rdrop_yes hfa.1 (by omega) hk he⟩
              · exact ⟨_, _, fun W fs h => h.drop_no hno, fun W fs h => h.rdrop_no hno⟩
            obtain ⟨b, es', hA, hB⟩ := hdrop
            have h6 := hST.quiet (below_drewN W6 1)
            have HA := hid hA; have HB := hid hB; have H6 := hid h6
            clear hST HST HPL hfa hA hB h6
            go_wp2_with fail
            refine region_held (fun w' => w'.cell? ⟨rb + 1, 0, none⟩ = some (.pointer (some ⟨rb, 0, none⟩)) ∧ w'.cell? ⟨bs, 1, none⟩ = some (.int .i64 id)) 10 rfl (by kernel_rfl) ⟨c0, c2⟩ ?_
            intro hHeld
            refine takeO 0 (some 136) (v := ?v145) rfl rfl (by kernel_rfl) (by kernel_rfl) (by kernel_rfl) (Or.inl ⟨by rfl, ?y145⟩) hHeld ?r145
            case y145 => (intro w' hSw; (try dsimp only at hSw); go_simp; try with_reducible rfl)
            try simp only [Act.put, List.setIfInBounds_toArray, List.set_cons_zero, List.set_cons_succ]
            refine takeO 1 (some 137) (v := ?v146) rfl rfl (by kernel_rfl) (by kernel_rfl) (by kernel_rfl) (Or.inl ⟨by rfl, ?y146⟩) hHeld ?r146
            case y146 => (intro w' hSw; (try dsimp only at hSw); go_simp; try with_reducible rfl)
            try simp only [Act.put, List.setIfInBounds_toArray, List.set_cons_zero, List.set_cons_succ]
            refine takeO 2 (some 138) (v := ?v147) rfl rfl (by kernel_rfl) (by kernel_rfl) (by kernel_rfl) (Or.inl ⟨by rfl, ?y147⟩) hHeld ?r147
            case y147 => (intro w' hSw; (try dsimp only at hSw); go_simp; try with_reducible rfl)
            try simp only [Act.put, List.setIfInBounds_toArray, List.set_cons_zero, List.set_cons_succ]
            refine takeO 4 (some 140) (v := ?v148) rfl rfl (by kernel_rfl) (by kernel_rfl) (by kernel_rfl) (Or.inl ⟨by rfl, ?y148⟩) hHeld ?r148
            case y148 => (intro w' hSw; (try dsimp only at hSw); go_simp; try with_reducible rfl)
            try simp only [Act.put, List.setIfInBounds_toArray, List.set_cons_zero, List.set_cons_succ]
            refine takeO 5 (some 141) (v := ?v149) rfl rfl (by kernel_rfl) (by kernel_rfl) (by kernel_rfl) (Or.inl ⟨by rfl, ?y149⟩) hHeld ?r149
            case y149 => (intro w' hSw; (try dsimp only at hSw); go_simp; try with_reducible rfl)
            try simp only [Act.put, List.setIfInBounds_toArray, List.set_cons_zero, List.set_cons_succ]
            refine takeO 6 (some 142) (v := ?v150) rfl rfl (by kernel_rfl) (by kernel_rfl) (by kernel_rfl) (Or.inl ⟨by rfl, ?y150⟩) hHeld ?r150
            case y150 => (intro w' hSw; (try dsimp only at hSw); go_simp; try with_reducible rfl)
            try simp only [Act.put, List.setIfInBounds_toArray, List.set_cons_zero, List.set_cons_succ]
            refine wpAnyH_ready (rs := [3]) (by kernel_rfl) (by simp) ?_
            refine AllReadyH.cons rfl (fun K hK => ?_) AllReadyH.nil
            go_simp
            refine (HA.out _ _ H6.out).mono ?_; rintro e' w7 ⟨rfl, h7⟩
            dsimp only
            refine hK.out _ _ ⟨h7.cells.1, h7.cells.2.2.1⟩ (fun hHeld => ?_)
            clear hK K
            refine wpAnyH_ready (rs := [7]) (by kernel_rfl) (by simp) ?_
            refine AllReadyH.cons rfl (fun K hK => ?_) AllReadyH.nil
            go_simp
            refine (HB.out _ _ h7).mono ?_; rintro e' w8 ⟨rfl, h8⟩
            dsimp only
            obtain ⟨d0, d1, d2, d3, d4, d5⟩ := h8.cells
            have h9 := h8.setOk hbo true
            have hS9 := (And.intro h9.cells.1 h9.cells.2.2.1)
            have H9 := hid h9
            refine hK.out _ _ ⟨d0, d2⟩ (fun hHeld => ?_)
            clear hK K h8 h9
            refine takeO 8 (some 144) (v := ?v151) rfl rfl (by kernel_rfl) (by kernel_rfl) (by kernel_rfl) (Or.inl ⟨by rfl, ?y151⟩) hHeld ?r151
            case y151 => (intro w' hSw; (try dsimp only at hSw); go_simp; try with_reducible rfl)
            try simp only [Act.put, List.setIfInBounds_toArray, List.set_cons_zero, List.set_cons_succ]
            refine wpAnyH_ready (rs := [9]) (by kernel_rfl) (by simp) ?_
            refine AllReadyH.cons rfl (fun K hK => ?_) AllReadyH.nil
            go_simp
            refine hK.out _ _ hS9 (fun hHeld => ?_)
            clear hK K
            refine wpAnyH_done (by kernel_rfl) (Only.on ?_) _
            go_wp2_with fail
            rw [HR2.out]
            (repeat apply Exists.intro)
            refine ⟨?_, rfl⟩
            exact ⟨es', L, rfl, H9.out, by omega⟩
        · as_aux_lemma =>
            have n1' : (q == 1) = false := by simpa using n1
            have n2' : (q == 2) = false := by simpa using n2
            have n3' : (q == 3) = false := by simpa using n3
            have n4' : (q == 4) = false := by simpa using n4
            clear hST hfa HPL n1 n2 n3 n4
            go_wp2_with fail
            rw [HR2.out]
            (repeat apply Exists.intro)
            refine ⟨?_, rfl⟩
            exact ⟨es, L, rfl, HST.out, by omega⟩
      clear HPL HST c0 c1 c2 c3 c4 c5
      intro a' w8 hinv
      rw [HR2.out] at hinv
      clear HR2 W6
      obtain ⟨u0, hinv⟩ := hinv
      obtain ⟨u2, hinv⟩ := hinv
      obtain ⟨u3, hinv⟩ := hinv
      obtain ⟨u4, hinv⟩ := hinv
      obtain ⟨u9, hinv⟩ := hinv
      obtain ⟨u10, hinv⟩ := hinv
      obtain ⟨u12, hinv⟩ := hinv
      obtain ⟨u13, hinv⟩ := hinv
      obtain ⟨u14, hinv⟩ := hinv
      obtain ⟨u15, hinv⟩ := hinv
      obtain ⟨u16, hinv⟩ := hinv
      obtain ⟨u17, hinv⟩ := hinv
      obtain ⟨u18, hinv⟩ := hinv
      obtain ⟨u19, hinv⟩ := hinv
      obtain ⟨u20, hinv⟩ := hinv
      obtain ⟨u21, hinv⟩ := hinv
      obtain ⟨u22, hinv⟩ := hinv
      obtain ⟨u23, hinv⟩ := hinv
      obtain ⟨u24, hinv⟩ := hinv
      obtain ⟨u25, hinv⟩ := hinv
      obtain ⟨u26, hinv⟩ := hinv
      obtain ⟨u27, hinv⟩ := hinv
      obtain ⟨u28, hinv⟩ := hinv
      obtain ⟨u29, hinv⟩ := hinv
      obtain ⟨u30, hinv⟩ := hinv
      obtain ⟨u31, hinv⟩ := hinv
      obtain ⟨u32, hinv⟩ := hinv
      obtain ⟨u33, hinv⟩ := hinv
      obtain ⟨u34, hinv⟩ := hinv
      obtain ⟨u35, hinv⟩ := hinv
      obtain ⟨u36, hinv⟩ := hinv
      obtain ⟨u37, hinv⟩ := hinv
      obtain ⟨u38, hinv⟩ := hinv
      obtain ⟨u39, hinv⟩ := hinv
      obtain ⟨u40, hinv⟩ := hinv
      obtain ⟨u41, hinv⟩ := hinv
      obtain ⟨u42, hinv⟩ := hinv
      obtain ⟨u43, hinv⟩ := hinv
      obtain ⟨u44, hinv⟩ := hinv
      obtain ⟨u45, hinv⟩ := hinv
      obtain ⟨u46, hinv⟩ := hinv
      obtain ⟨u47, hinv⟩ := hinv
      obtain ⟨u48, hinv⟩ := hinv
      obtain ⟨u49, hinv⟩ := hinv
      obtain ⟨u50, hinv⟩ := hinv
      obtain ⟨u51, hinv⟩ := hinv
      obtain ⟨u52, hinv⟩ := hinv
      obtain ⟨u53, hinv⟩ := hinv
      obtain ⟨u54, hinv⟩ := hinv
      obtain ⟨u55, hinv⟩ := hinv
      obtain ⟨u56, hinv⟩ := hinv
      obtain ⟨u57, hinv⟩ := hinv
      obtain ⟨u58, hinv⟩ := hinv
      obtain ⟨u59, hinv⟩ := hinv
      obtain ⟨u60, hinv⟩ := hinv
      obtain ⟨u61, hinv⟩ := hinv
      obtain ⟨u62, hinv⟩ := hinv
      obtain ⟨u63, hinv⟩ := hinv
      obtain ⟨u64, hinv⟩ := hinv
      obtain ⟨u65, hinv⟩ := hinv
      obtain ⟨u66, hinv⟩ := hinv
      obtain ⟨u67, hinv⟩ := hinv
      obtain ⟨u68, hinv⟩ := hinv
      obtain ⟨u69, hinv⟩ := hinv
      obtain ⟨u70, hinv⟩ := hinv
      obtain ⟨u71, hinv⟩ := hinv
      obtain ⟨u72, hinv⟩ := hinv
      obtain ⟨u73, hinv⟩ := hinv
      obtain ⟨u74, hinv⟩ := hinv
      obtain ⟨u75, hinv⟩ := hinv
      obtain ⟨u76, hinv⟩ := hinv
      obtain ⟨u77, hinv⟩ := hinv
      obtain ⟨u78, hinv⟩ := hinv
      obtain ⟨u79, hinv⟩ := hinv
      obtain ⟨u80, hinv⟩ := hinv
      obtain ⟨u81, hinv⟩ := hinv
      obtain ⟨u82, hinv⟩ := hinv
      obtain ⟨u83, hinv⟩ := hinv
      obtain ⟨u84, hinv⟩ := hinv
      obtain ⟨u85, hinv⟩ := hinv
      obtain ⟨u86, hinv⟩ := hinv
      obtain ⟨u87, hinv⟩ := hinv
      obtain ⟨u88, hinv⟩ := hinv
      obtain ⟨u89, hinv⟩ := hinv
      obtain ⟨u90, hinv⟩ := hinv
      obtain ⟨u91, hinv⟩ := hinv
      obtain ⟨u92, hinv⟩ := hinv
      obtain ⟨u93, hinv⟩ := hinv
      obtain ⟨u94, hinv⟩ := hinv
      obtain ⟨u95, hinv⟩ := hinv
      obtain ⟨u96, hinv⟩ := hinv
      obtain ⟨u97, hinv⟩ := hinv
      obtain ⟨u98, hinv⟩ := hinv
      obtain ⟨u99, hinv⟩ := hinv
      obtain ⟨u100, hinv⟩ := hinv
      obtain ⟨u101, hinv⟩ := hinv
      obtain ⟨u102, hinv⟩ := hinv
      obtain ⟨u103, hinv⟩ := hinv
      obtain ⟨u104, hinv⟩ := hinv
      obtain ⟨u105, hinv⟩ := hinv
      obtain ⟨u106, hinv⟩ := hinv
      obtain ⟨u107, hinv⟩ := hinv
      obtain ⟨u108, hinv⟩ := hinv
      obtain ⟨u109, hinv⟩ := hinv
      obtain ⟨u110, hinv⟩ := hinv
      obtain ⟨u111, hinv⟩ := hinv
      obtain ⟨u112, hinv⟩ := hinv
      obtain ⟨u113, hinv⟩ := hinv
      obtain ⟨u114, hinv⟩ := hinv
      obtain ⟨u115, hinv⟩ := hinv
      obtain ⟨u116, hinv⟩ := hinv
      obtain ⟨u117, hinv⟩ := hinv
      obtain ⟨u118, hinv⟩ := hinv
      obtain ⟨u119, hinv⟩ := hinv
      obtain ⟨u120, hinv⟩ := hinv
      obtain ⟨u121, hinv⟩ := hinv
      obtain ⟨u122, hinv⟩ := hinv
      obtain ⟨u123, hinv⟩ := hinv
      obtain ⟨u124, hinv⟩ := hinv
      obtain ⟨u125, hinv⟩ := hinv
      obtain ⟨u126, hinv⟩ := hinv
      obtain ⟨u127, hinv⟩ := hinv
      obtain ⟨u128, hinv⟩ := hinv
      obtain ⟨u129, hinv⟩ := hinv
      obtain ⟨u130, hinv⟩ := hinv
      obtain ⟨u131, hinv⟩ := hinv
      obtain ⟨u132, hinv⟩ := hinv
      obtain ⟨u133, hinv⟩ := hinv
      obtain ⟨u134, hinv⟩ := hinv
      obtain ⟨u135, hinv⟩ := hinv
      obtain ⟨u136, hinv⟩ := hinv
      obtain ⟨u137, hinv⟩ := hinv
      obtain ⟨u138, hinv⟩ := hinv
      obtain ⟨u139, hinv⟩ := hinv
      obtain ⟨u140, hinv⟩ := hinv
      obtain ⟨u141, hinv⟩ := hinv
      obtain ⟨u142, hinv⟩ := hinv
      obtain ⟨u143, hinv⟩ := hinv
      obtain ⟨u144, hinv⟩ := hinv
      obtain ⟨u145, hinv⟩ := hinv
      obtain ⟨u146, hinv⟩ := hinv
      obtain ⟨u147, hinv⟩ := hinv
      obtain ⟨u148, hinv⟩ := hinv
      obtain ⟨u149, hinv⟩ := hinv
      obtain ⟨u150, hinv⟩ := hinv
      obtain ⟨u151, hinv⟩ := hinv
      obtain ⟨u152, hinv⟩ := hinv
      obtain ⟨u153, hinv⟩ := hinv
      obtain ⟨u154, hinv⟩ := hinv
      obtain ⟨u155, hinv⟩ := hinv
      obtain ⟨u156, hinv⟩ := hinv
      obtain ⟨u157, hinv⟩ := hinv
      obtain ⟨u158, hinv⟩ := hinv
      obtain ⟨u159, hinv⟩ := hinv
      obtain ⟨u160, hinv⟩ := hinv
      obtain ⟨u161, hinv⟩ := hinv
      obtain ⟨u162, hinv⟩ := hinv
      obtain ⟨u163, hinv⟩ := hinv
      obtain ⟨u164, hinv⟩ := hinv
      obtain ⟨u165, hinv⟩ := hinv
      obtain ⟨u166, hinv⟩ := hinv
      obtain ⟨u167, hinv⟩ := hinv
      obtain ⟨u168, hinv⟩ := hinv
      obtain ⟨u169, hinv⟩ := hinv
      obtain ⟨u170, hinv⟩ := hinv
      obtain ⟨u171, hinv⟩ := hinv
      obtain ⟨u172, hinv⟩ := hinv
      obtain ⟨u173, hinv⟩ := hinv
      obtain ⟨u174, hinv⟩ := hinv
      obtain ⟨u175, hinv⟩ := hinv
      obtain ⟨u176, hinv⟩ := hinv
      obtain ⟨u177, hinv⟩ := hinv
      obtain ⟨u178, hinv⟩ := hinv
      obtain ⟨u179, hinv⟩ := hinv
      obtain ⟨u180, hinv⟩ := hinv
      obtain ⟨u181, hinv⟩ := hinv
      obtain ⟨u182, hinv⟩ := hinv
      obtain ⟨u183, hinv⟩ := hinv
      obtain ⟨u184, hinv⟩ := hinv
      obtain ⟨u185, hinv⟩ := hinv
      obtain ⟨u186, hinv⟩ := hinv
      obtain ⟨u187, hinv⟩ := hinv
      obtain ⟨u188, hinv⟩ := hinv
      obtain ⟨u189, hinv⟩ := hinv
      obtain ⟨u190, hinv⟩ := hinv
      obtain ⟨u191, hinv⟩ := hinv
      obtain ⟨u192, hinv⟩ := hinv
      obtain ⟨u193, hinv⟩ := hinv
      obtain ⟨u194, hinv⟩ := hinv
      obtain ⟨u195, hinv⟩ := hinv
      obtain ⟨u196, hinv⟩ := hinv
      obtain ⟨u197, hinv⟩ := hinv
      obtain ⟨u198, hinv⟩ := hinv
      obtain ⟨u199, hinv⟩ := hinv
      obtain ⟨u200, hinv⟩ := hinv
      obtain ⟨u201, hinv⟩ := hinv
      obtain ⟨u202, hinv⟩ := hinv
      obtain ⟨ds, ⟨fs, L', rfl, hST, hL'⟩, ha⟩ := hinv
      subst ha
      as_aux_lemma =>
        have hbnB : w.heap.size ≤ w8.heap.size := hST.tt.le
        have hT9 := hST.tt.alloc (.cells #[.int .i64 0] 3)
        have va9 := Vr.new w8 3 (.int .i64 0)
        have vb9 := hST.vo.alloc (.cells #[.int .i64 0] 3)
        have vw9 := hST.vw.alloc (.cells #[.int .i64 0] 3)
        have mk9 : Marks (w8.alloc (.cells #[.int .i64 0] 3)) Ds := hST.ms.below ((Below.refl _ _).alloc (Nat.le_refl _) _)
        have hnb : w8.heap.size ≠ bok := fun e => by have := hST.vo.lt; omega
        have HT9 := hid hT9; have VA9 := hid va9; have VB9 := hid vb9; have VW9 := hid vw9; have MK9 := hid mk9
        clear hST hT9 va9 vb9 vw9 mk9
        go_wp2_with fail
        generalize w8.alloc (.cells #[.int .i64 0] 3) = W9 at *
        generalize w8.heap.size = bn at *
        refine (tAllN _ W9).mono ?_; rintro e W10 ⟨rfl, hw10⟩
        dsimp only
        have b10 : Below W9.heap.size W9 W10 := by rw [hw10]; exact (Below.refl _ _).alloc (Nat.le_refl _) _
        have hBn : Vr W10 W9.heap.size 43 (.pointer (some ⟨t, 0, none⟩)) := by rw [hw10]; exact Vr.new W9 _ _
        obtain ⟨hT, kx⟩ := HT9.out.quiet b10
        have hva := VA9.out.kx kx (by simp)
        have hvb := VB9.out.kx kx (by simp)
        have hvw := VW9.out.kx kx (by simp)
        have hmk := MK9.out.kx kx (fun D hD => by simp [hD])
        obtain ⟨Bn, hBne⟩ : ∃ Bn, W9.heap.size = Bn := ⟨_, rfl⟩
        rw [hBne] at hBn ⊢
        clear hw10 b10 kx hBne HT9 VA9 VB9 VW9 MK9
        obtain ⟨S0, h0, hoff⟩ := hT.tab
        obtain ⟨S1, v1, hRef, hoff1⟩ := hT.ref
        have hstops := tAllN_stops Fence.wide 8 trivial rfl (by decide) (fun j => j = bn ∨ j = bok) S0 Bn t m L' fs W10 h0 hT.n0 hBn.cell hBn.lt (fun k hk e => hoff k hk (by rcases e with rfl | rfl <;> simp)) (fun k hX => hT.xl k (by rcases hX with rfl | rfl <;> simp))
        have hDb : ∀ D ∈ Ds, D < W10.heap.size := fun D hD => (Array.getElem?_eq_some_iff.1 (hmk D hD)).1
        obtain ⟨ex, hex⟩ : ∃ ex, toP fs = ex := ⟨_, rfl⟩
        have hexl : ex.length = fs.length := by rw [← hex, toP_length]
        have hexg : ∀ (i : Nat) (hi : i < fs.length) (y : Int), fs[i].2 = .int .i64 y → ex[i]? = some ((fs[i].1 : Int), y) := fun i hi y hy => by
          rw [← hex]; simp [toP, hi, hy, intOf]
        rw [hex] at hstops
        have hN := hT.n1
        have hB10 := hT.bel
        have HEX := hid hexg; have HT := hid hT; have VA := hid hva; have VB := hid hvb; have VW := hid hvw; have MK := hid hmk; have HRef := hid hRef; have HN := hid hN
        have hlen := fun q W (h : TT w.heap.size (bn :: bok :: bs :: (rb + 1) :: Ds) w W t rb m mo fs fs L' L') => (show Calls Try.prog 31 #[.pointer (some ⟨t, 0, none⟩)] (W.drewN q) fun e w' => e = .returned (.int .i64 (fs.length : Nat)) ∧ w' = W.drewN q by
          obtain ⟨S2, h2, _⟩ := (h.quiet (below_drewN W q)).1.tab
          exact tlenN S2 t m L' fs _ h2)
        have HLEN := hid hlen
        clear hexg hex hT hva hvb hvw hmk hRef hBn hlen hN h0
        go_wp2_with fail
        refine wp_meet (fun D W => ((w.heap.size ≤ D ∧ D ∉ Ds ∧ W10.heap.size ≤ D) ∧ W.heap[D]? = some (.deferred (some []))) ∧ Marks W Ds ∧ Vr W bn 3 (.int .i64 (fs.length : Nat)) ∧ Vr W bok 4 (.bool true) ∧ Kc (fun j => j = bn ∨ j = bok) W10 W ∧ Below w.heap.size w W) ?_ ?_
        · refine (wpIn_wide (n := 9)).1 (wpIn_rangeFunc_ownF rfl (by decide) (gf := 45) (lb := #[.pointer (some ⟨Bn, 0, none⟩)]) rfl trivial (enters_of Try.func45 (by kernel_rfl) rfl) hstops Kc.trans (Kc.putObj _) (Below.refl _ _) (fun _ => rfl)
            (fun pre W => Vr W bok 4 (.bool (good ex pre)) ∧ Vr W bn 3 (.int .i64 (pre.length : Nat)) ∧ Kc (fun j => j = bn ∨ j = bok) W10 W ∧ Below w.heap.size w W ∧ Marks W Ds)
            (fun c pre W => False)
            (OwnFrom.and own_vr (OwnFrom.and own_vr (OwnFrom.and own_kc (OwnFrom.and (ownFrom_below (Nat.le_refl _) hB10.size) (own_marks hDb)))))
            (fun c => own_pure)
            ⟨by rw [good_nil]; exact VB.out, VA.out, Kc.refl _ _, hB10, MK.out⟩ ?_ ?_ ?_ ?_ ?_)
          rotate_left
          · intro l x W K hK
            gi_wp2
            exact hK
          · rintro l pre ⟨xi, xx⟩ W ⟨vb, va, hkc, hBW, hM⟩ hlen
            have hRf := HRef.out.keepC hkc (fun j h1 h2 => hoff1 j h1 (by rcases h2 with rfl | rfl <;> simp))
            have hvw := VW.out.keepC hkc (fun e => by
              rcases e with e | e
              · have := VW.out.obj; rw [e, VA.out.obj] at this; cases this
              · have := VW.out.obj; rw [e, VB.out.obj] at this; cases this)
            obtain ⟨g0, cp, rfl, hl, hmx, hSg, hgr, hcs, _⟩ := hRf.at HN.out hlen
            unfold maxLen at hmx
            obtain ⟨y, hy⟩ := HN.out pre.length hlen
            obtain ⟨l0, l1⟩ := hcs pre.length hlen
            rw [hy] at l1
            have hG := HEX.out pre.length hlen y hy
            obtain ⟨idn, hidn⟩ : ∃ idn, fs[pre.length].1 = idn := ⟨_, rfl⟩
            rw [hidn] at l0 hG
            have hgs := good_snoc (x := (xi, xx)) hG
            have i1 : (pre.length : Int) < (fs.length : Int) := by omega
            have i2 : decide ((pre.length : Int) < (fs.length : Int)) = true := decide_eq_true i1
            have b0 : rb + 1 < W.heap.size := hvw.lt
            have b1 : rb < W.heap.size := by omega
            have b2 : g0 < W.heap.size := hRf.lt g0 hSg
            have cc := hRf.cells.2.2
            have cw := hvw.cell
            have ca := va.cell
            have cb := vb.cell
            have fb := vb.thaw
            have ba := va.lt
            have bb := vb.lt
            obtain ⟨gd, hgd⟩ : ∃ gd, good ex pre = gd := ⟨_, rfl⟩
            rw [hgd] at hgs cb vb
            have k0 : ∀ w', Below W.heap.size W w' → w'.cell? ⟨rb + 1, 0, none⟩ = some (.pointer (some ⟨rb, 0, none⟩)) := fun w' hb => (hb.cell (p := ⟨rb + 1, 0, none⟩) b0).trans cw
            have k1 : ∀ w', Below W.heap.size W w' → w'.cell? ⟨bn, 0, none⟩ = some (.int .i64 (pre.length : Int)) := fun w' hb => (hb.cell (p := ⟨bn, 0, none⟩) ba).trans ca
            have k2 : ∀ w', Below W.heap.size W w' → w'.cell? ⟨rb, 2, none⟩ = some (.slice (some ⟨g0, 0, none⟩) fs.length cp) := fun w' hb => (hb.cell (p := ⟨rb, 2, none⟩) b1).trans cc
            have k3 : ∀ w', Below W.heap.size W w' → w'.cell? ⟨bok, 0, none⟩ = some (.bool gd) := fun w' hb => (hb.cell (p := ⟨bok, 0, none⟩) bb).trans cb
            have k4 : ∀ w', Below W.heap.size W w' → w'.cell? ⟨g0, pre.length * 2, none⟩ = some (.int .i64 (idn : Int)) := fun w' hb => (hb.cell (p := ⟨g0, pre.length * 2, none⟩) b2).trans l0
            have k5 : ∀ w', Below W.heap.size W w' → w'.cell? ⟨g0, pre.length * 2 + 1, none⟩ = some (.int .i64 y) := fun w' hb => (hb.cell (p := ⟨g0, pre.length * 2 + 1, none⟩) b2).trans l1
            have HVA := hid va; have HVB := hid vb; have HBW := hid hBW; have HMM := hid hM; have HKC := hid hkc
            clear va vb hBW hM hkc hRf hvw hcs hG hy hidn hgd hstops ca cc cw l0 l1
            cases gd with
            | false =>
              have HGS := hid (show good ex (pre ++ [(xi, xx)]) = false by rw [hgs]; rfl)
              clear hgs
              as_aux_lemma =>
                gi_wp2_with fail
                refine round_Z (fun w' => Below W.heap.size W w') 34 35 rfl (by kernel_rfl) (by kernel_rfl) (below_drewN W 1) ?_
                intro hHeld
                refine takeZ 0 (some 149) (v := ?v46) rfl rfl (by kernel_rfl) (by kernel_rfl) (by kernel_rfl) (by kernel_rfl) (Or.inl ⟨by rfl, ?y46⟩) hHeld ?r46
                case y46 => (intro w' hSw; (try dsimp only at hSw); go_simp; try with_reducible rfl)
                try simp only [Act.put, List.setIfInBounds_toArray, List.set_cons_zero, List.set_cons_succ]
                refine takeZ 1 (some 150) (v := ?v47) rfl rfl (by kernel_rfl) (by kernel_rfl) (by kernel_rfl) (by kernel_rfl) (Or.inl ⟨by rfl, ?y47⟩) hHeld ?r47
                case y47 => (intro w' hSw; (try dsimp only at hSw); go_simp; try with_reducible rfl)
                try simp only [Act.put, List.setIfInBounds_toArray, List.set_cons_zero, List.set_cons_succ]
                refine takeU 2 (some 151) rfl rfl (by kernel_rfl) (by kernel_rfl) (by kernel_rfl) (by kernel_rfl) (by rfl) hHeld ?r1
                try simp only [Act.put, List.setIfInBounds_toArray, List.set_cons_zero, List.set_cons_succ]
                refine takeU 3 (some 152) rfl rfl (by kernel_rfl) (by kernel_rfl) (by kernel_rfl) (by kernel_rfl) (by rfl) hHeld ?r2
                try simp only [Act.put, List.setIfInBounds_toArray, List.set_cons_zero, List.set_cons_succ]
                refine takeU 4 (some 153) rfl rfl (by kernel_rfl) (by kernel_rfl) (by kernel_rfl) (by kernel_rfl) (by rfl) hHeld ?r3
                try simp only [Act.put, List.setIfInBounds_toArray, List.set_cons_zero, List.set_cons_succ]
                refine takeU 5 (some 154) rfl rfl (by kernel_rfl) (by kernel_rfl) (by kernel_rfl) (by kernel_rfl) (by rfl) hHeld ?r4
                try simp only [Act.put, List.setIfInBounds_toArray, List.set_cons_zero, List.set_cons_succ]
                refine takeU 6 (some 155) rfl rfl (by kernel_rfl) (by kernel_rfl) (by kernel_rfl) (by kernel_rfl) (by rfl) hHeld ?r5
                try simp only [Act.put, List.setIfInBounds_toArray, List.set_cons_zero, List.set_cons_succ]
                refine takeU 7 (some 156) rfl rfl (by kernel_rfl) (by kernel_rfl) (by kernel_rfl) (by kernel_rfl) (by rfl) hHeld ?r6
                try simp only [Act.put, List.setIfInBounds_toArray, List.set_cons_zero, List.set_cons_succ]
                refine takeU 8 (some 157) rfl rfl (by kernel_rfl) (by kernel_rfl) (by kernel_rfl) (by kernel_rfl) (by rfl) hHeld ?r7
                try simp only [Act.put, List.setIfInBounds_toArray, List.set_cons_zero, List.set_cons_succ]
                refine takeZ 9 (some 158) (v := ?v48) rfl rfl (by kernel_rfl) (by kernel_rfl) (by kernel_rfl) (by kernel_rfl) (Or.inl ⟨by rfl, ?y48⟩) hHeld ?r48
                case y48 => (intro w' hSw; (try dsimp only at hSw); go_simp; try with_reducible rfl)
                try simp only [Act.put, List.setIfInBounds_toArray, List.set_cons_zero, List.set_cons_succ]
                refine takeZ 10 (some 159) (v := ?v49) rfl rfl (by kernel_rfl) (by kernel_rfl) (by kernel_rfl) (by kernel_rfl) (Or.inl ⟨by rfl, ?y49⟩) hHeld ?r49
                case y49 => (intro w' hSw; (try dsimp only at hSw); go_simp; try with_reducible rfl)
                try simp only [Act.put, List.setIfInBounds_toArray, List.set_cons_zero, List.set_cons_succ]
                refine takeU 11 (some 160) rfl rfl (by kernel_rfl) (by kernel_rfl) (by kernel_rfl) (by kernel_rfl) (by rfl) hHeld ?r8
                try simp only [Act.put, List.setIfInBounds_toArray, List.set_cons_zero, List.set_cons_succ]
                refine takeU 12 (some 161) rfl rfl (by kernel_rfl) (by kernel_rfl) (by kernel_rfl) (by kernel_rfl) (by rfl) hHeld ?r9
                try simp only [Act.put, List.setIfInBounds_toArray, List.set_cons_zero, List.set_cons_succ]
                refine takeU 13 (some 162) rfl rfl (by kernel_rfl) (by kernel_rfl) (by kernel_rfl) (by kernel_rfl) (by rfl) hHeld ?r10
                try simp only [Act.put, List.setIfInBounds_toArray, List.set_cons_zero, List.set_cons_succ]
                refine takeU 14 (some 163) rfl rfl (by kernel_rfl) (by kernel_rfl) (by kernel_rfl) (by kernel_rfl) (by rfl) hHeld ?r11
                try simp only [Act.put, List.setIfInBounds_toArray, List.set_cons_zero, List.set_cons_succ]
                refine takeU 15 (some 164) rfl rfl (by kernel_rfl) (by kernel_rfl) (by kernel_rfl) (by kernel_rfl) (by rfl) hHeld ?r12
                try simp only [Act.put, List.setIfInBounds_toArray, List.set_cons_zero, List.set_cons_succ]
                refine takeU 16 (some 165) rfl rfl (by kernel_rfl) (by kernel_rfl) (by kernel_rfl) (by kernel_rfl) (by rfl) hHeld ?r13
                try simp only [Act.put, List.setIfInBounds_toArray, List.set_cons_zero, List.set_cons_succ]
                refine takeU 17 (some 166) rfl rfl (by kernel_rfl) (by kernel_rfl) (by kernel_rfl) (by kernel_rfl) (by rfl) hHeld ?r14
                try simp only [Act.put, List.setIfInBounds_toArray, List.set_cons_zero, List.set_cons_succ]
                refine takeU 18 (some 167) rfl rfl (by kernel_rfl) (by kernel_rfl) (by kernel_rfl) (by kernel_rfl) (by rfl) hHeld ?r15
                try simp only [Act.put, List.setIfInBounds_toArray, List.set_cons_zero, List.set_cons_succ]
                refine takeU 19 (some 168) rfl rfl (by kernel_rfl) (by kernel_rfl) (by kernel_rfl) (by kernel_rfl) (by rfl) hHeld ?r16
                try simp only [Act.put, List.setIfInBounds_toArray, List.set_cons_zero, List.set_cons_succ]
                refine takeU 20 (some 169) rfl rfl (by kernel_rfl) (by kernel_rfl) (by kernel_rfl) (by kernel_rfl) (by rfl) hHeld ?r17
                try simp only [Act.put, List.setIfInBounds_toArray, List.set_cons_zero, List.set_cons_succ]
                refine takeZ 21 (some 170) (v := ?v50) rfl rfl (by kernel_rfl) (by kernel_rfl) (by kernel_rfl) (by kernel_rfl) (Or.inl ⟨by rfl, ?y50⟩) hHeld ?r50
                case y50 => (intro w' hSw; (try dsimp only at hSw); go_simp; try with_reducible rfl)
                try simp only [Act.put, List.setIfInBounds_toArray, List.set_cons_zero, List.set_cons_succ]
                refine takeZ 22 (some 171) (v := ?v51) rfl rfl (by kernel_rfl) (by kernel_rfl) (by kernel_rfl) (by kernel_rfl) (Or.inl ⟨by rfl, ?y51⟩) hHeld ?r51
                case y51 => (intro w' hSw; (try dsimp only at hSw); go_simp; try with_reducible rfl)
                try simp only [Act.put, List.setIfInBounds_toArray, List.set_cons_zero, List.set_cons_succ]
                refine takeU 23 (some 172) rfl rfl (by kernel_rfl) (by kernel_rfl) (by kernel_rfl) (by kernel_rfl) (by rfl) hHeld ?r18
                try simp only [Act.put, List.setIfInBounds_toArray, List.set_cons_zero, List.set_cons_succ]
                refine takeU 24 (some 173) rfl rfl (by kernel_rfl) (by kernel_rfl) (by kernel_rfl) (by kernel_rfl) (by rfl) hHeld ?r19
                try simp only [Act.put, List.setIfInBounds_toArray, List.set_cons_zero, List.set_cons_succ]
                refine takeU 25 (some 174) rfl rfl (by kernel_rfl) (by kernel_rfl) (by kernel_rfl) (by kernel_rfl) (by rfl) hHeld ?r20
                try simp only [Act.put, List.setIfInBounds_toArray, List.set_cons_zero, List.set_cons_succ]
                refine takeU 26 (some 175) rfl rfl (by kernel_rfl) (by kernel_rfl) (by kernel_rfl) (by kernel_rfl) (by rfl) hHeld ?r21
                try simp only [Act.put, List.setIfInBounds_toArray, List.set_cons_zero, List.set_cons_succ]
                refine takeU 27 (some 176) rfl rfl (by kernel_rfl) (by kernel_rfl) (by kernel_rfl) (by kernel_rfl) (by rfl) hHeld ?r22
                try simp only [Act.put, List.setIfInBounds_toArray, List.set_cons_zero, List.set_cons_succ]
                refine takeU 28 (some 177) rfl rfl (by kernel_rfl) (by kernel_rfl) (by kernel_rfl) (by kernel_rfl) (by rfl) hHeld ?r23
                try simp only [Act.put, List.setIfInBounds_toArray, List.set_cons_zero, List.set_cons_succ]
                refine takeU 29 (some 178) rfl rfl (by kernel_rfl) (by kernel_rfl) (by kernel_rfl) (by kernel_rfl) (by rfl) hHeld ?r24
                try simp only [Act.put, List.setIfInBounds_toArray, List.set_cons_zero, List.set_cons_succ]
                refine takeU 30 (some 179) rfl rfl (by kernel_rfl) (by kernel_rfl) (by kernel_rfl) (by kernel_rfl) (by rfl) hHeld ?r25
                try simp only [Act.put, List.setIfInBounds_toArray, List.set_cons_zero, List.set_cons_succ]
                refine takeU 31 (some 180) rfl rfl (by kernel_rfl) (by kernel_rfl) (by kernel_rfl) (by kernel_rfl) (by rfl) hHeld ?r26
                try simp only [Act.put, List.setIfInBounds_toArray, List.set_cons_zero, List.set_cons_succ]
                refine takeU 32 (some 181) rfl rfl (by kernel_rfl) (by kernel_rfl) (by kernel_rfl) (by kernel_rfl) (by rfl) hHeld ?r27
                try simp only [Act.put, List.setIfInBounds_toArray, List.set_cons_zero, List.set_cons_succ]
                refine takeZ 33 (some 182) (v := ?v52) rfl rfl (by kernel_rfl) (by kernel_rfl) (by kernel_rfl) (by kernel_rfl) (Or.inl ⟨by rfl, ?y52⟩) hHeld ?r52
                case y52 => (intro w' hSw; (try dsimp only at hSw); go_simp; try with_reducible rfl)
                try simp only [Act.put, List.setIfInBounds_toArray, List.set_cons_zero, List.set_cons_succ]
                refine wpAnyZ_ready (rs := [34]) (by kernel_rfl) (by simp) ?_
                refine AllReadyZ.last rfl (fun K hK => ?_)
                go_simp
                refine hK.out _ _ ?_
                clear hK K
                refine wpAnyZ_done (by kernel_rfl) (Only.on ?_) _
                obtain ⟨W2, hW2⟩ : ∃ W2, (W.setCell ⟨bok, 0, none⟩ (.bool false)).drew = W2 := ⟨_, rfl⟩
                have va2 : Vr W2 bn 3 (.int .i64 (pre.length : Nat)) := by rw [← hW2]; exact ⟨((HVA.out.other (c := bok) (o := 0) hnb _)).obj⟩
                have vb2 : Vr W2 bok 4 (.bool false) := by rw [← hW2]; exact ⟨(HVB.out.set _).obj⟩
                have kc2 : Kc (fun j => j = bn ∨ j = bok) W W2 := by rw [← hW2]; exact ((Kc.refl _ W).setCell (.inr rfl) _).trans (Kc.of_fr ((Fr.refl _ _).drewN 1))
                have bl2 : Below w.heap.size w W2 := by rw [← hW2]; exact (HBW.out.setCell (p := ⟨bok, 0, none⟩) hbo _).trans (below_drewN _ 1)
                have ko2 : KeepsOthers W W2 := by rw [← hW2]; exact (KeepsOthers.setCell _ _ _).trans (ko_drewN _ 1)
                have c9 := va2.cell
                have f9 := va2.thaw
                have HVA2 := hid va2; have HVB2 := hid vb2; have HKC2 := hid kc2; have HBL2 := hid bl2; have HKO2 := hid ko2
                rw [hW2]
                clear hW2 va2 vb2 kc2 bl2 ko2
                gi_wp2
                exact ⟨HKO2.out.trans (KeepsOthers.setCell _ _ _), HKC2.out.setCell (.inl rfl) _, by rw [HGS.out]; exact HVB2.out.other (c := bn) (o := 0) (fun e => hnb e.symm) _, by rw [List.length_append, List.length_singleton, Int.natCast_add]; exact HVA2.out.set _, HKC.out.trans (HKC2.out.setCell (.inl rfl) _), HBL2.out.setCell (p := ⟨bn, 0, none⟩) hbnB _, HMM.out.others (HKO2.out.trans (KeepsOthers.setCell _ _ _))⟩
            | true =>
              by_cases hq1 : (idn : Int) = xi
              · have e1 : ((idn : Int) == xi) = true := by rw [hq1]; simp
                by_cases hq2 : y = xx
                · have e2 : (y == xx) = true := by rw [hq2]; simp
                  have HGS := hid (show good ex (pre ++ [(xi, xx)]) = true by rw [hgs, hq1, hq2]; simp)
                  clear hgs hq1 hq2
                  as_aux_lemma =>
                    gi_wp2_with fail
                    refine round_Z (fun w' => Below W.heap.size W w') 34 35 rfl (by kernel_rfl) (by kernel_rfl) (below_drewN W 1) ?_
                    intro hHeld
                    refine takeZ 0 (some 149) (v := ?v53) rfl rfl (by kernel_rfl) (by kernel_rfl) (by kernel_rfl) (by kernel_rfl) (Or.inl ⟨by rfl, ?y53⟩) hHeld ?r53
                    case y53 => (intro w' hSw; (try dsimp only at hSw); go_simp; try with_reducible rfl)
                    try simp only [Act.put, List.setIfInBounds_toArray, List.set_cons_zero, List.set_cons_succ]
                    refine takeZ 1 (some 150) (v := ?v54) rfl rfl (by kernel_rfl) (by kernel_rfl) (by kernel_rfl) (by kernel_rfl) (Or.inl ⟨by rfl, ?y54⟩) hHeld ?r54
                    case y54 => (intro w' hSw; (try dsimp only at hSw); go_simp; try with_reducible rfl)
                    try simp only [Act.put, List.setIfInBounds_toArray, List.set_cons_zero, List.set_cons_succ]
                    refine takeZ 2 (some 151) (v := ?v55) rfl rfl (by kernel_rfl) (by kernel_rfl) (by kernel_rfl) (by kernel_rfl) (Or.inl ⟨by rfl, ?y55⟩) hHeld ?r55
                    case y55 => (intro w' hSw; (try dsimp only at hSw); go_simp; try with_reducible rfl)
                    try simp only [Act.put, List.setIfInBounds_toArray, List.set_cons_zero, List.set_cons_succ]
                    refine takeZ 3 (some 152) (v := ?v56) rfl rfl (by kernel_rfl) (by kernel_rfl) (by kernel_rfl) (by kernel_rfl) (Or.inl ⟨by rfl, ?y56⟩) hHeld ?r56
                    case y56 => (intro w' hSw; (try dsimp only at hSw); go_simp; try with_reducible rfl)
                    try simp only [Act.put, List.setIfInBounds_toArray, List.set_cons_zero, List.set_cons_succ]
                    refine takeZ 4 (some 153) (v := ?v57) rfl rfl (by kernel_rfl) (by kernel_rfl) (by kernel_rfl) (by kernel_rfl) (Or.inl ⟨by rfl, ?y57⟩) hHeld ?r57
                    case y57 => (intro w' hSw; (try dsimp only at hSw); go_simp; try with_reducible rfl)
                    try simp only [Act.put, List.setIfInBounds_toArray, List.set_cons_zero, List.set_cons_succ]
                    refine takeZ 5 (some 154) (v := ?v58) rfl rfl (by kernel_rfl) (by kernel_rfl) (by kernel_rfl) (by kernel_rfl) (Or.inl ⟨by rfl, ?y58⟩) hHeld ?r58
                    case y58 => (intro w' hSw; (try dsimp only at hSw); go_simp; try with_reducible rfl)
                    try simp only [Act.put, List.setIfInBounds_toArray, List.set_cons_zero, List.set_cons_succ]
                    refine takeZ 6 (some 155) (v := ?v59) rfl rfl (by kernel_rfl) (by kernel_rfl) (by kernel_rfl) (by kernel_rfl) (Or.inl ⟨by rfl, ?y59⟩) hHeld ?r59
                    case y59 => (intro w' hSw; (try dsimp only at hSw); go_simp; try with_reducible rfl)
                    try simp only [Act.put, List.setIfInBounds_toArray, List.set_cons_zero, List.set_cons_succ]
                    refine takeZ 7 (some 156) (v := ?v60) rfl rfl (by kernel_rfl) (by kernel_rfl) (by kernel_rfl) (by kernel_rfl) (Or.inl ⟨by rfl, ?y60⟩) hHeld ?r60
                    case y60 => (intro w' hSw; (try dsimp only at hSw); go_simp; try with_reducible rfl)
                    try simp only [Act.put, List.setIfInBounds_toArray, List.set_cons_zero, List.set_cons_succ]
                    refine takeZ 8 (some 157) (v := ?v61) rfl rfl (by kernel_rfl) (by kernel_rfl) (by kernel_rfl) (by kernel_rfl) (Or.inl ⟨by rfl, ?y61⟩) hHeld ?r61
                    case y61 => (intro w' hSw; (try dsimp only at hSw); go_simp; try with_reducible rfl)
                    try simp only [Act.put, List.setIfInBounds_toArray, List.set_cons_zero, List.set_cons_succ]
                    refine takeZ 9 (some 158) (v := ?v62) rfl rfl (by kernel_rfl) (by kernel_rfl) (by kernel_rfl) (by kernel_rfl) (Or.inl ⟨by rfl, ?y62⟩) hHeld ?r62
                    case y62 => (intro w' hSw; (try dsimp only at hSw); go_simp; try with_reducible rfl)
                    try simp only [Act.put, List.setIfInBounds_toArray, List.set_cons_zero, List.set_cons_succ]
                    refine takeZ 10 (some 159) (v := ?v63) rfl rfl (by kernel_rfl) (by kernel_rfl) (by kernel_rfl) (by kernel_rfl) (Or.inl ⟨by rfl, ?y63⟩) hHeld ?r63
                    case y63 => (intro w' hSw; (try dsimp only at hSw); go_simp; try with_reducible rfl)
                    try simp only [Act.put, List.setIfInBounds_toArray, List.set_cons_zero, List.set_cons_succ]
                    refine takeZ 11 (some 160) (v := ?v64) rfl rfl (by kernel_rfl) (by kernel_rfl) (by kernel_rfl) (by kernel_rfl) (Or.inl ⟨by rfl, ?y64⟩) hHeld ?r64
                    case y64 => (intro w' hSw; (try dsimp only at hSw); go_simp; try with_reducible rfl)
                    try simp only [Act.put, List.setIfInBounds_toArray, List.set_cons_zero, List.set_cons_succ]
                    refine takeZ 12 (some 161) (v := ?v65) rfl rfl (by kernel_rfl) (by kernel_rfl) (by kernel_rfl) (by kernel_rfl) (Or.inl ⟨by rfl, ?y65⟩) hHeld ?r65
                    case y65 => (intro w' hSw; (try dsimp only at hSw); go_simp; try with_reducible rfl)
                    try simp only [Act.put, List.setIfInBounds_toArray, List.set_cons_zero, List.set_cons_succ]
                    refine takeZ 13 (some 162) (v := ?v66) rfl rfl (by kernel_rfl) (by kernel_rfl) (by kernel_rfl) (by kernel_rfl) (Or.inl ⟨by rfl, ?y66⟩) hHeld ?r66
                    case y66 => (intro w' hSw; (try dsimp only at hSw); go_simp; try with_reducible rfl)
                    try simp only [Act.put, List.setIfInBounds_toArray, List.set_cons_zero, List.set_cons_succ]
                    refine takeZ 14 (some 163) (v := ?v67) rfl rfl (by kernel_rfl) (by kernel_rfl) (by kernel_rfl) (by kernel_rfl) (Or.inl ⟨by rfl, ?y67⟩) hHeld ?r67
                    case y67 => (intro w' hSw; (try dsimp only at hSw); go_simp; try with_reducible rfl)
                    try simp only [Act.put, List.setIfInBounds_toArray, List.set_cons_zero, List.set_cons_succ]
                    refine takeZ 15 (some 164) (v := ?v68) rfl rfl (by kernel_rfl) (by kernel_rfl) (by kernel_rfl) (by kernel_rfl) (Or.inl ⟨by rfl, ?y68⟩) hHeld ?r68
                    case y68 => (intro w' hSw; (try dsimp only at hSw); go_simp; try with_reducible rfl)
                    try simp only [Act.put, List.setIfInBounds_toArray, List.set_cons_zero, List.set_cons_succ]
                    refine takeZ 16 (some 165) (v := ?v69) rfl rfl (by kernel_rfl) (by kernel_rfl) (by kernel_rfl) (by kernel_rfl) (Or.inl ⟨by rfl, ?y69⟩) hHeld ?r69
                    case y69 => (intro w' hSw; (try dsimp only at hSw); go_simp; try with_reducible rfl)
                    try simp only [Act.put, List.setIfInBounds_toArray, List.set_cons_zero, List.set_cons_succ]
                    refine takeZ 17 (some 166) (v := ?v70) rfl rfl (by kernel_rfl) (by kernel_rfl) (by kernel_rfl) (by kernel_rfl) (Or.inl ⟨by rfl, ?y70⟩) hHeld ?r70
                    case y70 => (intro w' hSw; (try dsimp only at hSw); go_simp; try with_reducible rfl)
                    try simp only [Act.put, List.setIfInBounds_toArray, List.set_cons_zero, List.set_cons_succ]
                    refine takeZ 18 (some 167) (v := ?v71) rfl rfl (by kernel_rfl) (by kernel_rfl) (by kernel_rfl) (by kernel_rfl) (Or.inl ⟨by rfl, ?y71⟩) hHeld ?r71
                    case y71 => (intro w' hSw; (try dsimp only at hSw); go_simp; try with_reducible rfl)
                    try simp only [Act.put, List.setIfInBounds_toArray, List.set_cons_zero, List.set_cons_succ]
                    refine takeZ 19 (some 168) (v := ?v72) rfl rfl (by kernel_rfl) (by kernel_rfl) (by kernel_rfl) (by kernel_rfl) (Or.inl ⟨by rfl, ?y72⟩) hHeld ?r72
                    case y72 => (intro w' hSw; (try dsimp only at hSw); go_simp; try with_reducible rfl)
                    try simp only [Act.put, List.setIfInBounds_toArray, List.set_cons_zero, List.set_cons_succ]
                    refine takeZ 20 (some 169) (v := ?v73) rfl rfl (by kernel_rfl) (by kernel_rfl) (by kernel_rfl) (by kernel_rfl) (Or.inl ⟨by rfl, ?y73⟩) hHeld ?r73
                    case y73 => (intro w' hSw; (try dsimp only at hSw); go_simp; try with_reducible rfl)
                    try simp only [Act.put, List.setIfInBounds_toArray, List.set_cons_zero, List.set_cons_succ]
                    refine takeZ 21 (some 170) (v := ?v74) rfl rfl (by kernel_rfl) (by kernel_rfl) (by kernel_rfl) (by kernel_rfl) (Or.inl ⟨by rfl, ?y74⟩) hHeld ?r74
                    case y74 => (intro w' hSw; (try dsimp only at hSw); go_simp; try with_reducible rfl)
                    try simp only [Act.put, List.setIfInBounds_toArray, List.set_cons_zero, List.set_cons_succ]
                    refine takeZ 22 (some 171) (v := ?v75) rfl rfl (by kernel_rfl) (by kernel_rfl) (by kernel_rfl) (by kernel_rfl) (Or.inl ⟨by rfl, ?y75⟩) hHeld ?r75
                    case y75 => (intro w' hSw; (try dsimp only at hSw); go_simp; try with_reducible rfl)
                    try simp only [Act.put, List.setIfInBounds_toArray, List.set_cons_zero, List.set_cons_succ]
                    refine takeZ 23 (some 172) (v := ?v76) rfl rfl (by kernel_rfl) (by kernel_rfl) (by kernel_rfl) (by kernel_rfl) (Or.inl ⟨by rfl, ?y76⟩) hHeld ?r76
                    case y76 => (intro w' hSw; (try dsimp only at hSw); go_simp; try with_reducible rfl)
                    try simp only [Act.put, List.setIfInBounds_toArray, List.set_cons_zero, List.set_cons_succ]
                    refine takeZ 24 (some 173) (v := ?v77) rfl rfl (by kernel_rfl) (by kernel_rfl) (by kernel_rfl) (by kernel_rfl) (Or.inl ⟨by rfl, ?y77⟩) hHeld ?r77
                    case y77 => (intro w' hSw; (try dsimp only at hSw); go_simp; try with_reducible rfl)
                    try simp only [Act.put, List.setIfInBounds_toArray, List.set_cons_zero, List.set_cons_succ]
                    refine takeZ 25 (some 174) (v := ?v78) rfl rfl (by kernel_rfl) (by kernel_rfl) (by kernel_rfl) (by kernel_rfl) (Or.inl ⟨by rfl, ?y78⟩) hHeld ?r78
                    case y78 => (intro w' hSw; (try dsimp only at hSw); go_simp; try with_reducible rfl)
                    try simp only [Act.put, List.setIfInBounds_toArray, List.set_cons_zero, List.set_cons_succ]
                    refine takeZ 26 (some 175) (v := ?v79) rfl rfl (by kernel_rfl) (by kernel_rfl) (by kernel_rfl) (by kernel_rfl) (Or.inl ⟨by rfl, ?y79⟩) hHeld ?r79
                    case y79 => (intro w' hSw; (try dsimp only at hSw); go_simp; try with_reducible rfl)
                    try simp only [Act.put, List.setIfInBounds_toArray, List.set_cons_zero, List.set_cons_succ]
                    refine takeZ 27 (some 176) (v := ?v80) rfl rfl (by kernel_rfl) (by kernel_rfl) (by kernel_rfl) (by kernel_rfl) (Or.inl ⟨by rfl, ?y80⟩) hHeld ?r80
                    case y80 => (intro w' hSw; (try dsimp only at hSw); go_simp; try with_reducible rfl)
                    try simp only [Act.put, List.setIfInBounds_toArray, List.set_cons_zero, List.set_cons_succ]
                    refine takeZ 28 (some 177) (v := ?v81) rfl rfl (by kernel_rfl) (by kernel_rfl) (by kernel_rfl) (by kernel_rfl) (Or.inl ⟨by rfl, ?y81⟩) hHeld ?r81
                    case y81 => (intro w' hSw; (try dsimp only at hSw); go_simp; try with_reducible rfl)
                    try simp only [Act.put, List.setIfInBounds_toArray, List.set_cons_zero, List.set_cons_succ]
                    refine takeZ 29 (some 178) (v := ?v82) rfl rfl (by kernel_rfl) (by kernel_rfl) (by kernel_rfl) (by kernel_rfl) (Or.inl ⟨by rfl, ?y82⟩) hHeld ?r82
                    case y82 => (intro w' hSw; (try dsimp only at hSw); go_simp; try with_reducible rfl)
                    try simp only [Act.put, List.setIfInBounds_toArray, List.set_cons_zero, List.set_cons_succ]
                    refine takeZ 30 (some 179) (v := ?v83) rfl rfl (by kernel_rfl) (by kernel_rfl) (by kernel_rfl) (by kernel_rfl) (Or.inl ⟨by rfl, ?y83⟩) hHeld ?r83
                    case y83 => (intro w' hSw; (try dsimp only at hSw); go_simp; try with_reducible rfl)
                    try simp only [Act.put, List.setIfInBounds_toArray, List.set_cons_zero, List.set_cons_succ]
                    refine takeZ 31 (some 180) (v := ?v84) rfl rfl (by kernel_rfl) (by kernel_rfl) (by kernel_rfl) (by kernel_rfl) (Or.inl ⟨by rfl, ?y84⟩) hHeld ?r84
                    case y84 => (intro w' hSw; (try dsimp only at hSw); go_simp; try with_reducible rfl)
                    try simp only [Act.put, List.setIfInBounds_toArray, List.set_cons_zero, List.set_cons_succ]
                    refine takeZ 32 (some 181) (v := ?v85) rfl rfl (by kernel_rfl) (by kernel_rfl) (by kernel_rfl) (by kernel_rfl) (Or.inl ⟨by rfl, ?y85⟩) hHeld ?r85
                    case y85 => (intro w' hSw; (try dsimp only at hSw); go_simp; try with_reducible rfl)
                    try simp only [Act.put, List.setIfInBounds_toArray, List.set_cons_zero, List.set_cons_succ]
                    refine takeZ 33 (some 182) (v := ?v86) rfl rfl (by kernel_rfl) (by kernel_rfl) (by kernel_rfl) (by kernel_rfl) (Or.inl ⟨by rfl, ?y86⟩) hHeld ?r86
                    case y86 => (intro w' hSw; (try dsimp only at hSw); go_simp; try with_reducible rfl)
                    try simp only [Act.put, List.setIfInBounds_toArray, List.set_cons_zero, List.set_cons_succ]
                    refine wpAnyZ_ready (rs := [34]) (by kernel_rfl) (by simp) ?_
                    refine AllReadyZ.last rfl (fun K hK => ?_)
                    go_simp
                    refine hK.out _ _ ?_
                    clear hK K
                    refine wpAnyZ_done (by kernel_rfl) (Only.on ?_) _
                    obtain ⟨W2, hW2⟩ : ∃ W2, (W.setCell ⟨bok, 0, none⟩ (.bool true)).drew = W2 := ⟨_, rfl⟩
                    have va2 : Vr W2 bn 3 (.int .i64 (pre.length : Nat)) := by rw [← hW2]; exact ⟨((HVA.out.other (c := bok) (o := 0) hnb _)).obj⟩
                    have vb2 : Vr W2 bok 4 (.bool true) := by rw [← hW2]; exact ⟨(HVB.out.set _).obj⟩
                    have kc2 : Kc (fun j => j = bn ∨ j = bok) W W2 := by rw [← hW2]; exact ((Kc.refl _ W).setCell (.inr rfl) _).trans (Kc.of_fr ((Fr.refl _ _).drewN 1))
                    have bl2 : Below w.heap.size w W2 := by rw [← hW2]; exact (HBW.out.setCell (p := ⟨bok, 0, none⟩) hbo _).trans (below_drewN _ 1)
                    have ko2 : KeepsOthers W W2 := by rw [← hW2]; exact (KeepsOthers.setCell _ _ _).trans (ko_drewN _ 1)
                    have c9 := va2.cell
                    have f9 := va2.thaw
                    have HVA2 := hid va2; have HVB2 := hid vb2; have HKC2 := hid kc2; have HBL2 := hid bl2; have HKO2 := hid ko2
                    rw [hW2]
                    clear hW2 va2 vb2 kc2 bl2 ko2
                    gi_wp2
                    exact ⟨HKO2.out.trans (KeepsOthers.setCell _ _ _), HKC2.out.setCell (.inl rfl) _, by rw [HGS.out]; exact HVB2.out.other (c := bn) (o := 0) (fun e => hnb e.symm) _, by rw [List.length_append, List.length_singleton, Int.natCast_add]; exact HVA2.out.set _, HKC.out.trans (HKC2.out.setCell (.inl rfl) _), HBL2.out.setCell (p := ⟨bn, 0, none⟩) hbnB _, HMM.out.others (HKO2.out.trans (KeepsOthers.setCell _ _ _))⟩
                · have e2 : (y == xx) = false := by simpa using hq2
                  have HGS := hid (show good ex (pre ++ [(xi, xx)]) = false by rw [hgs]; simp [hq2])
                  clear hgs hq1 hq2
                  as_aux_lemma =>
                    gi_wp2_with fail
                    refine round_Z (fun w' => Below W.heap.size W w') 34 35 rfl (by kernel_rfl) (by kernel_rfl) (below_drewN W 1) ?_
                    intro hHeld
                    refine takeZ 0 (some 149) (v := ?v87) rfl rfl (by kernel_rfl) (by kernel_rfl) (by kernel_rfl) (by kernel_rfl) (Or.inl ⟨by rfl, ?y87⟩) hHeld ?r87
                    case y87 => (intro w' hSw; (try dsimp only at hSw); go_simp; try with_reducible rfl)
                    try simp only [Act.put, List.setIfInBounds_toArray, List.set_cons_zero, List.set_cons_succ]
                    refine takeZ 1 (some 150) (v := ?v88) rfl rfl (by kernel_rfl) (by kernel_rfl) (by kernel_rfl) (by kernel_rfl) (Or.inl ⟨by rfl, ?y88⟩) hHeld ?r88
                    case y88 => (intro w' hSw; (try dsimp only at hSw); go_simp; try with_reducible rfl)
                    try simp only [Act.put, List.setIfInBounds_toArray, List.set_cons_zero, List.set_cons_succ]
                    refine takeZ 2 (some 151) (v := ?v89) rfl rfl (by kernel_rfl) (by kernel_rfl) (by kernel_rfl) (by kernel_rfl) (Or.inl ⟨by rfl, ?y89⟩) hHeld ?r89
                    case y89 => (intro w' hSw; (try dsimp only at hSw); go_simp; try with_reducible rfl)
                    try simp only [Act.put, List.setIfInBounds_toArray, List.set_cons_zero, List.set_cons_succ]
                    refine takeZ 3 (some 152) (v := ?v90) rfl rfl (by kernel_rfl) (by kernel_rfl) (by kernel_rfl) (by kernel_rfl) (Or.inl ⟨by rfl, ?y90⟩) hHeld ?r90
                    case y90 => (intro w' hSw; (try dsimp only at hSw); go_simp; try with_reducible rfl)
                    try simp only [Act.put, List.setIfInBounds_toArray, List.set_cons_zero, List.set_cons_succ]
                    refine takeZ 4 (some 153) (v := ?v91) rfl rfl (by kernel_rfl) (by kernel_rfl) (by kernel_rfl) (by kernel_rfl) (Or.inl ⟨by rfl, ?y91⟩) hHeld ?r91
                    case y91 => (intro w' hSw; (try dsimp only at hSw); go_simp; try with_reducible rfl)
                    try simp only [Act.put, List.setIfInBounds_toArray, List.set_cons_zero, List.set_cons_succ]
                    refine takeZ 5 (some 154) (v := ?v92) rfl rfl (by kernel_rfl) (by kernel_rfl) (by kernel_rfl) (by kernel_rfl) (Or.inl ⟨by rfl, ?y92⟩) hHeld ?r92
                    case y92 => (intro w' hSw; (try dsimp only at hSw); go_simp; try with_reducible rfl)
                    try simp only [Act.put, List.setIfInBounds_toArray, List.set_cons_zero, List.set_cons_succ]
                    refine takeZ 6 (some 155) (v := ?v93) rfl rfl (by kernel_rfl) (by kernel_rfl) (by kernel_rfl) (by kernel_rfl) (Or.inl ⟨by rfl, ?y93⟩) hHeld ?r93
                    case y93 => (intro w' hSw; (try dsimp only at hSw); go_simp; try with_reducible rfl)
                    try simp only [Act.put, List.setIfInBounds_toArray, List.set_cons_zero, List.set_cons_succ]
                    refine takeZ 7 (some 156) (v := ?v94) rfl rfl (by kernel_rfl) (by kernel_rfl) (by kernel_rfl) (by kernel_rfl) (Or.inl ⟨by rfl, ?y94⟩) hHeld ?r94
                    case y94 => (intro w' hSw; (try dsimp only at hSw); go_simp; try with_reducible rfl)
                    try simp only [Act.put, List.setIfInBounds_toArray, List.set_cons_zero, List.set_cons_succ]
                    refine takeZ 8 (some 157) (v := ?v95) rfl rfl (by kernel_rfl) (by kernel_rfl) (by kernel_rfl) (by kernel_rfl) (Or.inl ⟨by rfl, ?y95⟩) hHeld ?r95
                    case y95 => (intro w' hSw; (try dsimp only at hSw); go_simp; try with_reducible rfl)
                    try simp only [Act.put, List.setIfInBounds_toArray, List.set_cons_zero, List.set_cons_succ]
                    refine takeZ 9 (some 158) (v := ?v96) rfl rfl (by kernel_rfl) (by kernel_rfl) (by kernel_rfl) (by kernel_rfl) (Or.inl ⟨by rfl, ?y96⟩) hHeld ?r96
                    case y96 => (intro w' hSw; (try dsimp only at hSw); go_simp; try with_reducible rfl)
                    try simp only [Act.put, List.setIfInBounds_toArray, List.set_cons_zero, List.set_cons_succ]
                    refine takeZ 10 (some 159) (v := ?v97) rfl rfl (by kernel_rfl) (by kernel_rfl) (by kernel_rfl) (by kernel_rfl) (Or.inl ⟨by rfl, ?y97⟩) hHeld ?r97
                    case y97 => (intro w' hSw; (try dsimp only at hSw); go_simp; try with_reducible rfl)
                    try simp only [Act.put, List.setIfInBounds_toArray, List.set_cons_zero, List.set_cons_succ]
                    refine takeZ 11 (some 160) (v := ?v98) rfl rfl (by kernel_rfl) (by kernel_rfl) (by kernel_rfl) (by kernel_rfl) (Or.inl ⟨by rfl, ?y98⟩) hHeld ?r98
                    case y98 => (intro w' hSw; (try dsimp only at hSw); go_simp; try with_reducible rfl)
                    try simp only [Act.put, List.setIfInBounds_toArray, List.set_cons_zero, List.set_cons_succ]
                    refine takeZ 12 (some 161) (v := ?v99) rfl rfl (by kernel_rfl) (by kernel_rfl) (by kernel_rfl) (by kernel_rfl) (Or.inl ⟨by rfl, ?y99⟩) hHeld ?r99
                    case y99 => (intro w' hSw; (try dsimp only at hSw); go_simp; try with_reducible rfl)
                    try simp only [Act.put, List.setIfInBounds_toArray, List.set_cons_zero, List.set_cons_succ]
                    refine takeZ 13 (some 162) (v := ?v100) rfl rfl (by kernel_rfl) (by kernel_rfl) (by kernel_rfl) (by kernel_rfl) (Or.inl ⟨by rfl, ?y100⟩) hHeld ?r100
                    case y100 => (intro w' hSw; (try dsimp only at hSw); go_simp; try with_reducible rfl)
                    try simp only [Act.put, List.setIfInBounds_toArray, List.set_cons_zero, List.set_cons_succ]
                    refine takeZ 14 (some 163) (v := ?v101) rfl rfl (by kernel_rfl) (by kernel_rfl) (by kernel_rfl) (by kernel_rfl) (Or.inl ⟨by rfl, ?y101⟩) hHeld ?r101
                    case y101 => (intro w' hSw; (try dsimp only at hSw); go_simp; try with_reducible rfl)
                    try simp only [Act.put, List.setIfInBounds_toArray, List.set_cons_zero, List.set_cons_succ]
                    refine takeZ 15 (some 164) (v := ?v102) rfl rfl (by kernel_rfl) (by kernel_rfl) (by kernel_rfl) (by kernel_rfl) (Or.inl ⟨by rfl, ?y102⟩) hHeld ?r102
                    case y102 => (intro w' hSw; (try dsimp only at hSw); go_simp; try with_reducible rfl)
                    try simp only [Act.put, List.setIfInBounds_toArray, List.set_cons_zero, List.set_cons_succ]
                    refine takeZ 16 (some 165) (v := ?v103) rfl rfl (by kernel_rfl) (by kernel_rfl) (by kernel_rfl) (by kernel_rfl) (Or.inl ⟨by rfl, ?y103⟩) hHeld ?r103
                    case y103 => (intro w' hSw; (try dsimp only at hSw); go_simp; try with_reducible rfl)
                    try simp only [Act.put, List.setIfInBounds_toArray, List.set_cons_zero, List.set_cons_succ]
                    refine takeZ 17 (some 166) (v := ?v104) rfl rfl (by kernel_rfl) (by kernel_rfl) (by kernel_rfl) (by kernel_rfl) (Or.inl ⟨by rfl, ?y104⟩) hHeld ?r104
                    case y104 => (intro w' hSw; (try dsimp only at hSw); go_simp; try with_reducible rfl)
                    try simp only [Act.put, List.setIfInBounds_toArray, List.set_cons_zero, List.set_cons_succ]
                    refine takeZ 18 (some 167) (v := ?v105) rfl rfl (by kernel_rfl) (by kernel_rfl) (by kernel_rfl) (by kernel_rfl) (Or.inl ⟨by rfl, ?y105⟩) hHeld ?r105
                    case y105 => (intro w' hSw; (try dsimp only at hSw); go_simp; try with_reducible rfl)
                    try simp only [Act.put, List.setIfInBounds_toArray, List.set_cons_zero, List.set_cons_succ]
                    refine takeZ 19 (some 168) (v := ?v106) rfl rfl (by kernel_rfl) (by kernel_rfl) (by kernel_rfl) (by kernel_rfl) (Or.inl ⟨by rfl, ?y106⟩) hHeld ?r106
                    case y106 => (intro w' hSw; (try dsimp only at hSw); go_simp; try with_reducible rfl)
                    try simp only [Act.put, List.setIfInBounds_toArray, List.set_cons_zero, List.set_cons_succ]
                    refine takeZ 20 (some 169) (v := ?v107) rfl rfl (by kernel_rfl) (by kernel_rfl) (by kernel_rfl) (by kernel_rfl) (Or.inl ⟨by rfl, ?y107⟩) hHeld ?r107
                    case y107 => (intro w' hSw; (try dsimp only at hSw); go_simp; try with_reducible rfl)
                    try simp only [Act.put, List.setIfInBounds_toArray, List.set_cons_zero, List.set_cons_succ]
                    refine takeZ 21 (some 170) (v := ?v108) rfl rfl (by kernel_rfl) (by kernel_rfl) (by kernel_rfl) (by kernel_rfl) (Or.inl ⟨by rfl, ?y108⟩) hHeld ?r108
                    case y108 => (intro w' hSw; (try dsimp only at hSw); go_simp; try with_reducible rfl)
                    try simp only [Act.put, List.setIfInBounds_toArray, List.set_cons_zero, List.set_cons_succ]
                    refine takeZ 22 (some 171) (v := ?v109) rfl rfl (by kernel_rfl) (by kernel_rfl) (by kernel_rfl) (by kernel_rfl) (Or.inl ⟨by rfl, ?y109⟩) hHeld ?r109
                    case y109 => (intro w' hSw; (try dsimp only at hSw); go_simp; try with_reducible rfl)
                    try simp only [Act.put, List.setIfInBounds_toArray, List.set_cons_zero, List.set_cons_succ]
                    refine takeZ 23 (some 172) (v := ?v110) rfl rfl (by kernel_rfl) (by kernel_rfl) (by kernel_rfl) (by kernel_rfl) (Or.inl ⟨by rfl, ?y110⟩) hHeld ?r110
                    case y110 => (intro w' hSw; (try dsimp only at hSw); go_simp; try with_reducible rfl)
                    try simp only [Act.put, List.setIfInBounds_toArray, List.set_cons_zero, List.set_cons_succ]
                    refine takeZ 24 (some 173) (v := ?v111) rfl rfl (by kernel_rfl) (by kernel_rfl) (by kernel_rfl) (by kernel_rfl) (Or.inl ⟨by rfl, ?y111⟩) hHeld ?r111
                    case y111 => (intro w' hSw; (try dsimp only at hSw); go_simp; try with_reducible rfl)
                    try simp only [Act.put, List.setIfInBounds_toArray, List.set_cons_zero, List.set_cons_succ]
                    refine takeZ 25 (some 174) (v := ?v112) rfl rfl (by kernel_rfl) (by kernel_rfl) (by kernel_rfl) (by kernel_rfl) (Or.inl ⟨by rfl, ?y112⟩) hHeld ?r112
                    case y112 => (intro w' hSw; (try dsimp only at hSw); go_simp; try with_reducible rfl)
                    try simp only [Act.put, List.setIfInBounds_toArray, List.set_cons_zero, List.set_cons_succ]
                    refine takeZ 26 (some 175) (v := ?v113) rfl rfl (by kernel_rfl) (by kernel_rfl) (by kernel_rfl) (by kernel_rfl) (Or.inl ⟨by rfl, ?y113⟩) hHeld ?r113
                    case y113 => (intro w' hSw; (try dsimp only at hSw); go_simp; try with_reducible rfl)
                    try simp only [Act.put, List.setIfInBounds_toArray, List.set_cons_zero, List.set_cons_succ]
                    refine takeZ 27 (some 176) (v := ?v114) rfl rfl (by kernel_rfl) (by kernel_rfl) (by kernel_rfl) (by kernel_rfl) (Or.inl ⟨by rfl, ?y114⟩) hHeld ?r114
                    case y114 => (intro w' hSw; (try dsimp only at hSw); go_simp; try with_reducible rfl)
                    try simp only [Act.put, List.setIfInBounds_toArray, List.set_cons_zero, List.set_cons_succ]
                    refine takeZ 28 (some 177) (v := ?v115) rfl rfl (by kernel_rfl) (by kernel_rfl) (by kernel_rfl) (by kernel_rfl) (Or.inl ⟨by rfl, ?y115⟩) hHeld ?r115
                    case y115 => (intro w' hSw; (try dsimp only at hSw); go_simp; try with_reducible rfl)
                    try simp only [Act.put, List.setIfInBounds_toArray, List.set_cons_zero, List.set_cons_succ]
                    refine takeZ 29 (some 178) (v := ?v116) rfl rfl (by kernel_rfl) (by kernel_rfl) (by kernel_rfl) (by kernel_rfl) (Or.inl ⟨by rfl, ?y116⟩) hHeld ?r116
                    case y116 => (intro w' hSw; (try dsimp only at hSw); go_simp; try with_reducible rfl)
                    try simp only [Act.put, List.setIfInBounds_toArray, List.set_cons_zero, List.set_cons_succ]
                    refine takeZ 30 (some 179) (v := ?v117) rfl rfl (by kernel_rfl) (by kernel_rfl) (by kernel_rfl) (by kernel_rfl) (Or.inl ⟨by rfl, ?y117⟩) hHeld ?r117
                    case y117 => (intro w' hSw; (try dsimp only at hSw); go_simp; try with_reducible rfl)
                    try simp only [Act.put, List.setIfInBounds_toArray, List.set_cons_zero, List.set_cons_succ]
                    refine takeZ 31 (some 180) (v := ?v118) rfl rfl (by kernel_rfl) (by kernel_rfl) (by kernel_rfl) (by kernel_rfl) (Or.inl ⟨by rfl, ?y118⟩) hHeld ?r118
                    case y118 => (intro w' hSw; (try dsimp only at hSw); go_simp; try with_reducible rfl)
                    try simp only [Act.put, List.setIfInBounds_toArray, List.set_cons_zero, List.set_cons_succ]
                    refine takeZ 32 (some 181) (v := ?v119) rfl rfl (by kernel_rfl) (by kernel_rfl) (by kernel_rfl) (by kernel_rfl) (Or.inl ⟨by rfl, ?y119⟩) hHeld ?r119
                    case y119 => (intro w' hSw; (try dsimp only at hSw); go_simp; try with_reducible rfl)
                    try simp only [Act.put, List.setIfInBounds_toArray, List.set_cons_zero, List.set_cons_succ]
                    refine takeZ 33 (some 182) (v := ?v120) rfl rfl (by kernel_rfl) (by kernel_rfl) (by kernel_rfl) (by kernel_rfl) (Or.inl ⟨by rfl, ?y120⟩) hHeld ?r120
                    case y120 => (intro w' hSw; (try dsimp only at hSw); go_simp; try with_reducible rfl)
                    try simp only [Act.put, List.setIfInBounds_toArray, List.set_cons_zero, List.set_cons_succ]
                    refine wpAnyZ_ready (rs := [34]) (by kernel_rfl) (by simp) ?_
                    refine AllReadyZ.last rfl (fun K hK => ?_)
                    go_simp
                    refine hK.out _ _ ?_
                    clear hK K
                    refine wpAnyZ_done (by kernel_rfl) (Only.on ?_) _
                    obtain ⟨W2, hW2⟩ : ∃ W2, (W.setCell ⟨bok, 0, none⟩ (.bool false)).drew = W2 := ⟨_, rfl⟩
                    have va2 : Vr W2 bn 3 (.int .i64 (pre.length : Nat)) := by rw [← hW2]; exact ⟨((HVA.out.other (c := bok) (o := 0) hnb _)).obj⟩
                    have vb2 : Vr W2 bok 4 (.bool false) := by rw [← hW2]; exact ⟨(HVB.out.set _).obj⟩
                    have kc2 : Kc (fun j => j = bn ∨ j = bok) W W2 := by rw [← hW2]; exact ((Kc.refl _ W).setCell (.inr rfl) _).trans (Kc.of_fr ((Fr.refl _ _).drewN 1))
                    have bl2 : Below w.heap.size w W2 := by rw [← hW2]; exact (HBW.out.setCell (p := ⟨bok, 0, none⟩) hbo _).trans (below_drewN _ 1)
                    have ko2 : KeepsOthers W W2 := by rw [← hW2]; exact (KeepsOthers.setCell _ _ _).trans (ko_drewN _ 1)
                    have c9 := va2.cell
                    have f9 := va2.thaw
                    have HVA2 := hid va2; have HVB2 := hid vb2; have HKC2 := hid kc2; have HBL2 := hid bl2; have HKO2 := hid ko2
                    rw [hW2]
                    clear hW2 va2 vb2 kc2 bl2 ko2
                    gi_wp2
                    exact ⟨HKO2.out.trans (KeepsOthers.setCell _ _ _), HKC2.out.setCell (.inl rfl) _, by rw [HGS.out]; exact HVB2.out.other (c := bn) (o := 0) (fun e => hnb e.symm) _, by rw [List.length_append, List.length_singleton, Int.natCast_add]; exact HVA2.out.set _, HKC.out.trans (HKC2.out.setCell (.inl rfl) _), HBL2.out.setCell (p := ⟨bn, 0, none⟩) hbnB _, HMM.out.others (HKO2.out.trans (KeepsOthers.setCell _ _ _))⟩
              · have e1 : ((idn : Int) == xi) = false := by simpa using hq1
                have HGS := hid (show good ex (pre ++ [(xi, xx)]) = false by rw [hgs]; simp [hq1])
                clear hgs hq1
                as_aux_lemma =>
                  gi_wp2_with fail
                  refine round_Z (fun w' => Below W.heap.size W w') 34 35 rfl (by kernel_rfl) (by kernel_rfl) (below_drewN W 1) ?_
                  intro hHeld
                  refine takeZ 0 (some 149) (v := ?v121) rfl rfl (by kernel_rfl) (by kernel_rfl) (by kernel_rfl) (by kernel_rfl) (Or.inl ⟨by rfl, ?y121⟩) hHeld ?r121
                  case y121 => (intro w' hSw; (try dsimp only at hSw); go_simp; try with_reducible rfl)
                  try simp only [Act.put, List.setIfInBounds_toArray, List.set_cons_zero, List.set_cons_succ]
                  refine takeZ 1 (some 150) (v := ?v122) rfl rfl (by kernel_rfl) (by kernel_rfl) (by kernel_rfl) (by kernel_rfl) (Or.inl ⟨by rfl, ?y122⟩) hHeld ?r122
                  case y122 => (intro w' hSw; (try dsimp only at hSw); go_simp; try with_reducible rfl)
                  try simp only [Act.put, List.setIfInBounds_toArray, List.set_cons_zero, List.set_cons_succ]
                  refine takeZ 2 (some 151) (v := ?v123) rfl rfl (by kernel_rfl) (by kernel_rfl) (by kernel_rfl) (by kernel_rfl) (Or.inl ⟨by rfl, ?y123⟩) hHeld ?r123
                  case y123 => (intro w' hSw; (try dsimp only at hSw); go_simp; try with_reducible rfl)
                  try simp only [Act.put, List.setIfInBounds_toArray, List.set_cons_zero, List.set_cons_succ]
                  refine takeZ 3 (some 152) (v := ?v124) rfl rfl (by kernel_rfl) (by kernel_rfl) (by kernel_rfl) (by kernel_rfl) (Or.inl ⟨by rfl, ?y124⟩) hHeld ?r124
                  case y124 => (intro w' hSw; (try dsimp only at hSw); go_simp; try with_reducible rfl)
                  try simp only [Act.put, List.setIfInBounds_toArray, List.set_cons_zero, List.set_cons_succ]
                  refine takeZ 4 (some 153) (v := ?v125) rfl rfl (by kernel_rfl) (by kernel_rfl) (by kernel_rfl) (by kernel_rfl) (Or.inl ⟨by rfl, ?y125⟩) hHeld ?r125
                  case y125 => (intro w' hSw; (try dsimp only at hSw); go_simp; try with_reducible rfl)
                  try simp only [Act.put, List.setIfInBounds_toArray, List.set_cons_zero, List.set_cons_succ]
                  refine takeZ 5 (some 154) (v := ?v126) rfl rfl (by kernel_rfl) (by kernel_rfl) (by kernel_rfl) (by kernel_rfl) (Or.inl ⟨by rfl, ?y126⟩) hHeld ?r126
                  case y126 => (intro w' hSw; (try dsimp only at hSw); go_simp; try with_reducible rfl)
                  try simp only [Act.put, List.setIfInBounds_toArray, List.set_cons_zero, List.set_cons_succ]
                  refine takeZ 6 (some 155) (v := ?v127) rfl rfl (by kernel_rfl) (by kernel_rfl) (by kernel_rfl) (by kernel_rfl) (Or.inl ⟨by rfl, ?y127⟩) hHeld ?r127
                  case y127 => (intro w' hSw; (try dsimp only at hSw); go_simp; try with_reducible rfl)
                  try simp only [Act.put, List.setIfInBounds_toArray, List.set_cons_zero, List.set_cons_succ]
                  refine takeZ 7 (some 156) (v := ?v128) rfl rfl (by kernel_rfl) (by kernel_rfl) (by kernel_rfl) (by kernel_rfl) (Or.inl ⟨by rfl, ?y128⟩) hHeld ?r128
                  case y128 => (intro w' hSw; (try dsimp only at hSw); go_simp; try with_reducible rfl)
                  try simp only [Act.put, List.setIfInBounds_toArray, List.set_cons_zero, List.set_cons_succ]
                  refine takeZ 8 (some 157) (v := ?v129) rfl rfl (by kernel_rfl) (by kernel_rfl) (by kernel_rfl) (by kernel_rfl) (Or.inl ⟨by rfl, ?y129⟩) hHeld ?r129
                  case y129 => (intro w' hSw; (try dsimp only at hSw); go_simp; try with_reducible rfl)
                  try simp only [Act.put, List.setIfInBounds_toArray, List.set_cons_zero, List.set_cons_succ]
                  refine takeZ 9 (some 158) (v := ?v130) rfl rfl (by kernel_rfl) (by kernel_rfl) (by kernel_rfl) (by kernel_rfl) (Or.inl ⟨by rfl, ?y130⟩) hHeld ?r130
                  case y130 => (intro w' hSw; (try dsimp only at hSw); go_simp; try with_reducible rfl)
                  try simp only [Act.put, List.setIfInBounds_toArray, List.set_cons_zero, List.set_cons_succ]
                  refine takeZ 10 (some 159) (v := ?v131) rfl rfl (by kernel_rfl) (by kernel_rfl) (by kernel_rfl) (by kernel_rfl) (Or.inl ⟨by rfl, ?y131⟩) hHeld ?r131
                  case y131 => (intro w' hSw; (try dsimp only at hSw); go_simp; try with_reducible rfl)
                  try simp only [Act.put, List.setIfInBounds_toArray, List.set_cons_zero, List.set_cons_succ]
                  refine takeZ 11 (some 160) (v := ?v132) rfl rfl (by kernel_rfl) (by kernel_rfl) (by kernel_rfl) (by kernel_rfl) (Or.inl ⟨by rfl, ?y132⟩) hHeld ?r132
                  case y132 => (intro w' hSw; (try dsimp only at hSw); go_simp; try with_reducible rfl)
                  try simp only [Act.put, List.setIfInBounds_toArray, List.set_cons_zero, List.set_cons_succ]
                  refine takeZ 12 (some 161) (v := ?v133) rfl rfl (by kernel_rfl) (by kernel_rfl) (by kernel_rfl) (by kernel_rfl) (Or.inl ⟨by rfl, ?y133⟩) hHeld ?r133
                  case y133 => (intro w' hSw; (try dsimp only at hSw); go_simp; try with_reducible rfl)
                  try simp only [Act.put, List.setIfInBounds_toArray, List.set_cons_zero, List.set_cons_succ]
                  refine takeZ 13 (some 162) (v := ?v134) rfl rfl (by kernel_rfl) (by kernel_rfl) (by kernel_rfl) (by kernel_rfl) (Or.inl ⟨by rfl, ?y134⟩) hHeld ?r134
                  case y134 => (intro w' hSw; (try dsimp only at hSw); go_simp; try with_reducible rfl)
                  try simp only [Act.put, List.setIfInBounds_toArray, List.set_cons_zero, List.set_cons_succ]
                  refine takeZ 14 (some 163) (v := ?v135) rfl rfl (by kernel_rfl) (by kernel_rfl) (by kernel_rfl) (by kernel_rfl) (Or.inl ⟨by rfl, ?y135⟩) hHeld ?r135
                  case y135 => (intro w' hSw; (try dsimp only at hSw); go_simp; try with_reducible rfl)
                  try simp only [Act.put, List.setIfInBounds_toArray, List.set_cons_zero, List.set_cons_succ]
                  refine takeZ 15 (some 164) (v := ?v136) rfl rfl (by kernel_rfl) (by kernel_rfl) (by kernel_rfl) (by kernel_rfl) (Or.inl ⟨by rfl, ?y136⟩) hHeld ?r136
                  case y136 => (intro w' hSw; (try dsimp only at hSw); go_simp; try with_reducible rfl)
                  try simp only [Act.put, List.setIfInBounds_toArray, List.set_cons_zero, List.set_cons_succ]
                  refine takeZ 16 (some 165) (v := ?v137) rfl rfl (by kernel_rfl) (by kernel_rfl) (by kernel_rfl) (by kernel_rfl) (Or.inl ⟨by rfl, ?y137⟩) hHeld ?r137
                  case y137 => (intro w' hSw; (try dsimp only at hSw); go_simp; try with_reducible rfl)
                  try simp only [Act.put, List.setIfInBounds_toArray, List.set_cons_zero, List.set_cons_succ]
                  refine takeZ 17 (some 166) (v := ?v138) rfl rfl (by kernel_rfl) (by kernel_rfl) (by kernel_rfl) (by kernel_rfl) (Or.inl ⟨by rfl, ?y138⟩) hHeld ?r138
                  case y138 => (intro w' hSw; (try dsimp only at hSw); go_simp; try with_reducible rfl)
                  try simp only [Act.put, List.setIfInBounds_toArray, List.set_cons_zero, List.set_cons_succ]
                  refine takeZ 18 (some 167) (v := ?v139) rfl rfl (by kernel_rfl) (by kernel_rfl) (by kernel_rfl) (by kernel_rfl) (Or.inl ⟨by rfl, ?y139⟩) hHeld ?r139
                  case y139 => (intro w' hSw; (try dsimp only at hSw); go_simp; try with_reducible rfl)
                  try simp only [Act.put, List.setIfInBounds_toArray, List.set_cons_zero, List.set_cons_succ]
                  refine takeZ 19 (some 168) (v := ?v140) rfl rfl (by kernel_rfl) (by kernel_rfl) (by kernel_rfl) (by kernel_rfl) (Or.inl ⟨by rfl, ?y140⟩) hHeld ?r140
                  case y140 => (intro w' hSw; (try dsimp only at hSw); go_simp; try with_reducible rfl)
                  try simp only [Act.put, List.setIfInBounds_toArray, List.set_cons_zero, List.set_cons_succ]
                  refine takeZ 20 (some 169) (v := ?v141) rfl rfl (by kernel_rfl) (by kernel_rfl) (by kernel_rfl) (by kernel_rfl) (Or.inl ⟨by rfl, ?y141⟩) hHeld ?r141
                  case y141 => (intro w' hSw; (try dsimp only at hSw); go_simp; try with_reducible rfl)
                  try simp only [Act.put, List.setIfInBounds_toArray, List.set_cons_zero, List.set_cons_succ]
                  refine takeZ 21 (some 170) (v := ?v142) rfl rfl (by kernel_rfl) (by kernel_rfl) (by kernel_rfl) (by kernel_rfl) (Or.inl ⟨by rfl, ?y142⟩) hHeld ?r142
                  case y142 => (intro w' hSw; (try dsimp only at hSw); go_simp; try with_reducible rfl)
                  try simp only [Act.put, List.setIfInBounds_toArray, List.set_cons_zero, List.set_cons_succ]
                  refine takeZ 22 (some 171) (v := ?v143) rfl rfl (by kernel_rfl) (by kernel_rfl) (by kernel_rfl) (by kernel_rfl) (Or.inl ⟨by rfl, ?y143⟩) hHeld ?r143
                  case y143 => (intro w' hSw; (try dsimp only at hSw); go_simp; try with_reducible rfl)
                  try simp only [Act.put, List.setIfInBounds_toArray, List.set_cons_zero, List.set_cons_succ]
                  refine takeU 23 (some 172) rfl rfl (by kernel_rfl) (by kernel_rfl) (by kernel_rfl) (by kernel_rfl) (by rfl) hHeld ?r28
                  try simp only [Act.put, List.setIfInBounds_toArray, List.set_cons_zero, List.set_cons_succ]
                  refine takeU 24 (some 173) rfl rfl (by kernel_rfl) (by kernel_rfl) (by kernel_rfl) (by kernel_rfl) (by rfl) hHeld ?r29
                  try simp only [Act.put, List.setIfInBounds_toArray, List.set_cons_zero, List.set_cons_succ]
                  refine takeU 25 (some 174) rfl rfl (by kernel_rfl) (by kernel_rfl) (by kernel_rfl) (by kernel_rfl) (by rfl) hHeld ?r30
                  try simp only [Act.put, List.setIfInBounds_toArray, List.set_cons_zero, List.set_cons_succ]
                  refine takeU 26 (some 175) rfl rfl (by kernel_rfl) (by kernel_rfl) (by kernel_rfl) (by kernel_rfl) (by rfl) hHeld ?r31
                  try simp only [Act.put, List.setIfInBounds_toArray, List.set_cons_zero, List.set_cons_succ]
                  refine takeU 27 (some 176) rfl rfl (by kernel_rfl) (by kernel_rfl) (by kernel_rfl) (by kernel_rfl) (by rfl) hHeld ?r32
                  try simp only [Act.put, List.setIfInBounds_toArray, List.set_cons_zero, List.set_cons_succ]
                  refine takeU 28 (some 177) rfl rfl (by kernel_rfl) (by kernel_rfl) (by kernel_rfl) (by kernel_rfl) (by rfl) hHeld ?r33
                  try simp only [Act.put, List.setIfInBounds_toArray, List.set_cons_zero, List.set_cons_succ]
                  refine takeU 29 (some 178) rfl rfl (by kernel_rfl) (by kernel_rfl) (by kernel_rfl) (by kernel_rfl) (by rfl) hHeld ?r34
                  try simp only [Act.put, List.setIfInBounds_toArray, List.set_cons_zero, List.set_cons_succ]
                  refine takeU 30 (some 179) rfl rfl (by kernel_rfl) (by kernel_rfl) (by kernel_rfl) (by kernel_rfl) (by rfl) hHeld ?r35
                  try simp only [Act.put, List.setIfInBounds_toArray, List.set_cons_zero, List.set_cons_succ]
                  refine takeU 31 (some 180) rfl rfl (by kernel_rfl) (by kernel_rfl) (by kernel_rfl) (by kernel_rfl) (by rfl) hHeld ?r36
                  try simp only [Act.put, List.setIfInBounds_toArray, List.set_cons_zero, List.set_cons_succ]
                  refine takeU 32 (some 181) rfl rfl (by kernel_rfl) (by kernel_rfl) (by kernel_rfl) (by kernel_rfl) (by rfl) hHeld ?r37
                  try simp only [Act.put, List.setIfInBounds_toArray, List.set_cons_zero, List.set_cons_succ]
                  refine takeZ 33 (some 182) (v := ?v144) rfl rfl (by kernel_rfl) (by kernel_rfl) (by kernel_rfl) (by kernel_rfl) (Or.inl ⟨by rfl, ?y144⟩) hHeld ?r144
                  case y144 => (intro w' hSw; (try dsimp only at hSw); go_simp; try with_reducible rfl)
                  try simp only [Act.put, List.setIfInBounds_toArray, List.set_cons_zero, List.set_cons_succ]
                  refine wpAnyZ_ready (rs := [34]) (by kernel_rfl) (by simp) ?_
                  refine AllReadyZ.last rfl (fun K hK => ?_)
                  go_simp
                  refine hK.out _ _ ?_
                  clear hK K
                  refine wpAnyZ_done (by kernel_rfl) (Only.on ?_) _
                  obtain ⟨W2, hW2⟩ : ∃ W2, (W.setCell ⟨bok, 0, none⟩ (.bool false)).drew = W2 := ⟨_, rfl⟩
                  have va2 : Vr W2 bn 3 (.int .i64 (pre.length : Nat)) := by rw [← hW2]; exact ⟨((HVA.out.other (c := bok) (o := 0) hnb _)).obj⟩
                  have vb2 : Vr W2 bok 4 (.bool false) := by rw [← hW2]; exact ⟨(HVB.out.set _).obj⟩
                  have kc2 : Kc (fun j => j = bn ∨ j = bok) W W2 := by rw [← hW2]; exact ((Kc.refl _ W).setCell (.inr rfl) _).trans (Kc.of_fr ((Fr.refl _ _).drewN 1))
                  have bl2 : Below w.heap.size w W2 := by rw [← hW2]; exact (HBW.out.setCell (p := ⟨bok, 0, none⟩) hbo _).trans (below_drewN _ 1)
                  have ko2 : KeepsOthers W W2 := by rw [← hW2]; exact (KeepsOthers.setCell _ _ _).trans (ko_drewN _ 1)
                  have c9 := va2.cell
                  have f9 := va2.thaw
                  have HVA2 := hid va2; have HVB2 := hid vb2; have HKC2 := hid kc2; have HBL2 := hid bl2; have HKO2 := hid ko2
                  rw [hW2]
                  clear hW2 va2 vb2 kc2 bl2 ko2
                  gi_wp2
                  exact ⟨HKO2.out.trans (KeepsOthers.setCell _ _ _), HKC2.out.setCell (.inl rfl) _, by rw [HGS.out]; exact HVB2.out.other (c := bn) (o := 0) (fun e => hnb e.symm) _, by rw [List.length_append, List.length_singleton, Int.natCast_add]; exact HVA2.out.set _, HKC.out.trans (HKC2.out.setCell (.inl rfl) _), HBL2.out.setCell (p := ⟨bn, 0, none⟩) hbnB _, HMM.out.others (HKO2.out.trans (KeepsOthers.setCell _ _ _))⟩
          · rintro D ys W hD rfl ⟨vb, va, hkc, hBW, hM⟩ hK
            exact ⟨.inl rfl, D, ⟨⟨⟨Nat.le_trans hB10.size hD, fun hm => by have := hDb D hm; omega, hD⟩, hK⟩, hM, by rw [← hexl]; exact va, by rw [good_full] at vb; exact vb, hkc, hBW⟩, rfl⟩
          · rintro D c pre W hD hsp hix hK
            exact hix.elim
        · rintro D W ⟨⟨⟨hD1, hD2, hD3⟩, hK⟩, hM, va, vb, hkc, hBW⟩
          have hmm : Marks W (D :: Ds) := fun D' hD' => by
            rcases List.mem_cons.1 hD' with rfl | hD'
            · exact hK
            · exact hM D' hD'
          have hXs : ∀ k, (k = bn ∨ k = bok) → k ∈ (bn :: bok :: bs :: (rb + 1) :: Ds) := fun k e => by rcases e with rfl | rfl <;> simp
          have hTW := HT.out.keepC hkc hXs hBW
          have hTD := (HT.out.keepD hkc hXs hBW hD3 (Array.getElem?_eq_some_iff.1 hK).1).sub (ys := (rb + 1) :: D :: Ds) (fun k hk => by
            simp only [List.mem_cons] at hk ⊢
            rcases hk with rfl | rfl | hk <;> simp [*])
          have hvw := VW.out.keepC hkc (fun e => by
            rcases e with e | e
            · have := VW.out.obj; rw [e, VA.out.obj] at this; cases this
            · have := VW.out.obj; rw [e, VB.out.obj] at this; cases this)
          obtain ⟨S2, v2, hR2, _⟩ := hTW.ref
          obtain ⟨a2, cp2, rfl, hl2, hm2', _, _⟩ := hR2.row.form
          unfold maxLen at hm2'
          have l2 := hR2.cells.2.2
          have ca := va.cell
          have cb := vb.cell
          have cw := hvw.cell
          have hlen := fun q => HLEN.out q W hTW
          have e3 : ((fs.length : Int) != (fs.length : Int)) = false := by simp
          have HTD := hid hTD; have HVW := hid hvw; have HMM := hid hmm
          clear hstops hTD hvw hmm hTW hR2 HT VA VB VW MK HRef HEX hkc hM hK va vb hBW HLEN HN
          go_wp2_with fail
          go_quiet (first | (go_at_call 31; exact Calls.quiet_of_same (hlen _)))
          go_wp2_with fail
          refine ⟨?_, ?_⟩
          · rw [HR3.out]
            (repeat apply Exists.intro)
            refine ⟨?_, rfl⟩
            exact ⟨kk + 1, D :: Ds, fs, L', by go_num, by omega, by omega, rfl, (HTD.out.quiet (below_drewN W _)).1, HVW.out.below (below_drewN W _) HVW.out.lt, HMM.out.below (below_drewN W _), List.nodup_cons.2 ⟨hD2, hnd⟩, fun D' hD' => by
              rcases List.mem_cons.1 hD' with rfl | hD'
              · exact hD1
              · exact hge D' hD', hL'⟩
          · simp [intOf]; omega
    · by_cases hkn2 : kk < n
      case' pos => (have i1 : (kk : Int) < (n : Int) := (by omega); have i2 : ¬ (kk : Int) < 100 := (by omega))
      case' neg => have i1 : ¬ (kk : Int) < (n : Int) := by omega
      all_goals
        have HT := hid hT; have HM := hid hM
        clear hT hM hV
        go_wp2_with fail
        exact leaves_marksT (fun W' => by simp [results, Try.results6, go_sem]) Ds _ HM.out hnd hge HT.out.bel
end Go.Proofs.Ytechkkidebkadaa
