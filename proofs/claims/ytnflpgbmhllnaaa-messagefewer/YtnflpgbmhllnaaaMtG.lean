/- Layer 5 (message): a row of messages, and one more, appended to nothing, in whatever order their rows are laid. -/
import Derived.Test.YtnflpgbmhllnaaaMtY
namespace Go.Proofs.Ytnflpgbmhllnaaa
open Go.RowKit Go.Shelf
set_option linter.unusedVariables false
set_option linter.unusedSimpArgs false

/-- All of them may be read. -/
def FinM (u : World) (ms : List Msg) (vX : Value) (uX : World) : Prop := ∃ px cx qx, vX = .slice px ms.length cx ∧ ArgM uX px cx ms qx ∧ Below u.heap.size u uX
theorem fin_arg {u uX : World} {B : Nat} {v : Value} {fs : List Msg} {q : Nat → Option Addr × Nat} {m : Msg} {p p2 : Option Addr} {cap c2 : Nat} (hL : ArgM u p2 c2 fs q) (ha : Arg u p m.bytes.length cap fun i => .int .u8 ((m.bytes.getD i 0 : Nat) : Int)) (hok : MOk m) (hb : Below u.heap.size u uX)
    (ho : uX.ownsRow B 40 23 v (fs ++ [m]).length (msCells (fs ++ [m]) (snocQ (qv fs q) fs.length (.slice p m.bytes.length cap)))) : FinM u (fs ++ [m]) v uX := by
  obtain ⟨px, cx, hv, hA⟩ := argM_own ho (fun i hi => by
    by_cases e : i = fs.length
    · subst e
      rw [mg_last]
      unfold snocQ
      rw [if_pos rfl]
      exact ⟨_, _, rfl, ha.keep hb, hok⟩
    · have hi' : i < fs.length := by rw [List.length_append, List.length_singleton] at hi; omega
      rw [mg_left _ _ hi']
      unfold snocQ
      rw [if_neg e]
      exact ⟨_, _, rfl, (hL.bytes i hi').keep hb, hL.ok i hi'⟩)
  exact ⟨px, cx, _, hv, hA, hb⟩
theorem core1 {u u1 : World} {B g : Nat} {fs : List Msg} {q : Nat → Option Addr × Nat} {p2 : Option Addr} {c2 : Nat} (hL : ArgM u p2 c2 fs q) (hl : fs.length ≤ 16) (hb : Below u.heap.size u u1) (h0 : u1.ownsRow B 40 23 (.slice (some ⟨g, 0, none⟩) 0 0) 0 []) (hB : B ≤ u1.heap.size) (hg : u.heap.size ≤ g) :
    ∃ v8 u8, (Builtin.append_ #[22, 22] 22 #[.slice (some ⟨g, 0, none⟩) 0 0, .slice p2 fs.length c2]).run Try.prog u1 = .ok v8 u8 ∧ u8.ownsRow B 40 23 v8 fs.length (msCells fs (qv fs q)) ∧ Fr (fun k => k = g) u1 u8 ∧ Below u.heap.size u u8 := by
  obtain ⟨v8, u8, r, o, f, _⟩ := append_ms 22 (hL.keep hb) h0 hB (by omega)
  exact ⟨v8, u8, r, o, f, hb.trans (f.below hb.size (fun k e => by rw [e]; exact hg))⟩
theorem core2 {u u9 : World} {B b : Nat} {v8 : Value} {fs : List Msg} {q : Nat → Option Addr × Nat} {m : Msg} {p p2 : Option Addr} {cap c2 : Nat} (hL : ArgM u p2 c2 fs q) (ha : Arg u p m.bytes.length cap fun i => .int .u8 ((m.bytes.getD i 0 : Nat) : Int)) (hok : MOk m) (hl : fs.length ≤ 16) (hb : Below u.heap.size u u9) (hB : u.heap.size ≤ B) (hB9 : B ≤ u9.heap.size)
    (ho : u9.ownsRow B 40 23 v8 fs.length (msCells fs (qv fs q))) (hm : u9.heap[b]? = some (.cells (msgC m (.slice p m.bytes.length cap)) 40 (0, 0))) :
    ∃ vX uX, (Builtin.append_ #[22, 22] 22 #[v8, .slice (some ⟨b, 0, none⟩) 1 1]).run Try.prog u9 = .ok vX uX ∧ FinM u (fs ++ [m]) vX uX := by
  obtain ⟨vX, uX, r, o, f⟩ := own_app 22 ho hm hB9 (by omega)
  exact ⟨vX, uX, r, fin_arg hL ha hok (hb.trans (f.below hb.size (fun k e => Nat.le_trans hB (ho.lt k e).1))) o⟩
theorem alloc_below (u : World) (o : Obj) : Below u.heap.size u (u.alloc o) := (Below.refl _ _).alloc (Nat.le_refl _) _
theorem ord1 {u : World} {fs : List Msg} {q : Nat → Option Addr × Nat} {m : Msg} {p p2 : Option Addr} {cap c2 : Nat} (hL : ArgM u p2 c2 fs q) (ha : Arg u p m.bytes.length cap fun i => .int .u8 ((m.bytes.getD i 0 : Nat) : Int)) (hok : MOk m) (hl : fs.length ≤ 16) :
    ∃ v8 u8 vX uX, (Builtin.append_ #[22, 22] 22 #[.slice (some ⟨u.heap.size, 0, none⟩) 0 0, .slice p2 fs.length c2]).run Try.prog (u.alloc (.cells #[] 40)) = .ok v8 u8 ∧ Below u.heap.size u u8 ∧
      (Builtin.append_ #[22, 22] 22 #[v8, .slice (some ⟨u8.heap.size, 0, none⟩) 1 1]).run Try.prog (u8.alloc (.cells (msgC m (.slice p m.bytes.length cap)) 40)) = .ok vX uX ∧ FinM u (fs ++ [m]) vX uX := by
  obtain ⟨v8, u8, r2, o8, f8, b8⟩ := core1 hL hl (alloc_below u (.cells #[] 40)) (own_empty_m u) (by simp) (Nat.le_refl _)
  obtain ⟨vX, uX, r5, hF⟩ := core2 (u9 := u8.alloc (.cells (msgC m (.slice p m.bytes.length cap)) 40)) (b := u8.heap.size) hL ha hok hl (b8.trans ((alloc_below u8 _).mono b8.size)) (Nat.le_refl _) (by have := b8.size; simp; omega) (owns_same o8 (fun k hk => Below.heap_alloc _ _ _ (o8.lt k hk).2)) (heap_alloc_new u8 _)
  exact ⟨v8, u8, vX, uX, r2, b8, r5, hF⟩
theorem ord2 {u : World} {fs : List Msg} {q : Nat → Option Addr × Nat} {m : Msg} {p p2 : Option Addr} {cap c2 : Nat} (hL : ArgM u p2 c2 fs q) (ha : Arg u p m.bytes.length cap fun i => .int .u8 ((m.bytes.getD i 0 : Nat) : Int)) (hok : MOk m) (hl : fs.length ≤ 16) :
    ∃ v8 u8 vX uX, (Builtin.append_ #[22, 22] 22 #[.slice (some ⟨u.heap.size, 0, none⟩) 0 0, .slice p2 fs.length c2]).run Try.prog ((u.alloc (.cells #[] 40)).alloc (.cells (msgC m (.slice p m.bytes.length cap)) 40)) = .ok v8 u8 ∧ Below u.heap.size u u8 ∧
      (Builtin.append_ #[22, 22] 22 #[v8, .slice (some ⟨u.heap.size + 1, 0, none⟩) 1 1]).run Try.prog u8 = .ok vX uX ∧ FinM u (fs ++ [m]) vX uX := by
  have hs1 : (u.alloc (.cells #[] 40)).heap.size = u.heap.size + 1 := by simp
  have h0 := own_empty_m u
  have hb : Below u.heap.size u ((u.alloc (.cells #[] 40)).alloc (.cells (msgC m (.slice p m.bytes.length cap)) 40)) := (alloc_below u _).trans ((alloc_below _ _).mono (alloc_below u _).size)
  have hn := Bq.new' 40 (msgC m (.slice p m.bytes.length cap)) hs1
  obtain ⟨v8, u8, r2, o8, f8, b8⟩ := core1 hL hl hb (owns_same h0 (fun k hk => Below.heap_alloc _ _ _ (h0.lt k hk).2)) (by simp; omega) (Nat.le_refl _)
  obtain ⟨vX, uX, r5, hF⟩ := core2 (u9 := u8) (b := u.heap.size + 1) hL ha hok hl b8 (Nat.le_refl _) b8.size o8 ((hn.same (f8.block _ hn.lt (by omega))).obj)
  exact ⟨v8, u8, vX, uX, r2, b8, r5, hF⟩
theorem ord3 {u : World} {fs : List Msg} {q : Nat → Option Addr × Nat} {m : Msg} {p p2 : Option Addr} {cap c2 : Nat} (hL : ArgM u p2 c2 fs q) (ha : Arg u p m.bytes.length cap fun i => .int .u8 ((m.bytes.getD i 0 : Nat) : Int)) (hok : MOk m) (hl : fs.length ≤ 16) :
    ∃ v8 u8 vX uX, (Builtin.append_ #[22, 22] 22 #[.slice (some ⟨u.heap.size + 1, 0, none⟩) 0 0, .slice p2 fs.length c2]).run Try.prog ((u.alloc (.cells (msgC m (.slice p m.bytes.length cap)) 40)).alloc (.cells #[] 40)) = .ok v8 u8 ∧ Below u.heap.size u u8 ∧
      (Builtin.append_ #[22, 22] 22 #[v8, .slice (some ⟨u.heap.size, 0, none⟩) 1 1]).run Try.prog u8 = .ok vX uX ∧ FinM u (fs ++ [m]) vX uX := by
  have hs1 : (u.alloc (.cells (msgC m (.slice p m.bytes.length cap)) 40)).heap.size = u.heap.size + 1 := by simp
  have h0 := own_empty_m (u.alloc (.cells (msgC m (.slice p m.bytes.length cap)) 40))
  rw [hs1] at h0
  have hb : Below u.heap.size u ((u.alloc (.cells (msgC m (.slice p m.bytes.length cap)) 40)).alloc (.cells #[] 40)) := (alloc_below u _).trans ((alloc_below _ _).mono (alloc_below u _).size)
  have hn := (Bq.new u 40 (msgC m (.slice p m.bytes.length cap))).alloc (.cells #[] 40)
  obtain ⟨v8, u8, r2, o8, f8, b8⟩ := core1 hL hl hb h0 (by simp) (by omega)
  obtain ⟨vX, uX, r5, hF⟩ := core2 (u9 := u8) (b := u.heap.size) hL ha hok hl b8 (by omega) (by have := f8.size; simp at this; omega) o8 ((hn.same (f8.block _ hn.lt (by omega))).obj)
  exact ⟨v8, u8, vX, uX, r2, b8, r5, hF⟩
end Go.Proofs.Ytnflpgbmhllnaaa
