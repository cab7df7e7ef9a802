/- Layer 12 (shot): what New makes. -/
import Derived.Test.YthcmcjklhcfenaaShF
namespace Go.Proofs.Ythcmcjklhcfenaa
open Go.RowKit
set_option linter.unusedVariables false
set_option linter.unusedSimpArgs false
attribute [local go_sem ↓] Go.wp_at_zero Go.wp_at_succ

theorem newS_cases {i o k x y z a b c : Int} {q : Sh} {n : Int} (hq : newS i o k x y z a b c = (q, n)) :
    (q = noSh ∧ n = 1) ∨ (n = 0 ∧ ¬ (a = 0 ∧ b = 0 ∧ c = 0) ∧ (-65536 ≤ a ∧ a ≤ 65536) ∧ (-65536 ≤ b ∧ b ≤ 65536) ∧ (-65536 ≤ c ∧ c ≤ 65536) ∧ ∃ s f : Int, (k = 0 ∧ s = 26214 ∧ f = 200 ∨ k = 1 ∧ s = 16384 ∧ f = 60) ∧ q = ⟨i, o, k, x, y, z, mkv a s (flong a b c), mkv b s (flong a b c), mkv c s (flong a b c), f, false⟩) := by
  unfold newS at hq
  by_cases c1 : a = 0 ∧ b = 0 ∧ c = 0
  · rw [if_pos c1] at hq
    obtain ⟨rfl, rfl⟩ := Prod.mk.inj hq
    exact .inl ⟨rfl, rfl⟩
  · rw [if_neg c1] at hq
    by_cases c2 : fclamp a 65536 = a ∧ fclamp b 65536 = b ∧ fclamp c 65536 = c
    · rw [if_pos c2] at hq
      by_cases k0 : k = 0
      · rw [if_pos k0] at hq; obtain ⟨rfl, rfl⟩ := Prod.mk.inj hq
        exact .inr ⟨rfl, c1, (fclamp_one a).1 c2.1, (fclamp_one b).1 c2.2.1, (fclamp_one c).1 c2.2.2, _, _, .inl ⟨k0, rfl, rfl⟩, rfl⟩
      · rw [if_neg k0] at hq
        by_cases k1 : k = 1
        · rw [if_pos k1] at hq; obtain ⟨rfl, rfl⟩ := Prod.mk.inj hq
          exact .inr ⟨rfl, c1, (fclamp_one a).1 c2.1, (fclamp_one b).1 c2.2.1, (fclamp_one c).1 c2.2.2, _, _, .inr ⟨k1, rfl, rfl⟩, rfl⟩
        · rw [if_neg k1] at hq; obtain ⟨rfl, rfl⟩ := Prod.mk.inj hq; exact .inl ⟨rfl, rfl⟩
    · rw [if_neg c2] at hq
      obtain ⟨rfl, rfl⟩ := Prod.mk.inj hq
      exact .inl ⟨rfl, rfl⟩
theorem newS_makes {i o k x y z a b c : Int} (c1 : ¬ (a = 0 ∧ b = 0 ∧ c = 0)) (ha : -65536 ≤ a ∧ a ≤ 65536) (hb : -65536 ≤ b ∧ b ≤ 65536) (hc : -65536 ≤ c ∧ c ≤ 65536) {s f : Int} (hk : k = 0 ∧ s = 26214 ∧ f = 200 ∨ k = 1 ∧ s = 16384 ∧ f = 60) :
    newS i o k x y z a b c = (⟨i, o, k, x, y, z, mkv a s (flong a b c), mkv b s (flong a b c), mkv c s (flong a b c), f, false⟩, 0) := by
  unfold newS
  rw [if_neg c1, if_pos ⟨(fclamp_one a).2 ha, (fclamp_one b).2 hb, (fclamp_one c).2 hc⟩]
  rcases hk with ⟨rfl, rfl, rfl⟩ | ⟨rfl, rfl, rfl⟩
  · rw [if_pos rfl]
  · rw [if_neg (by omega), if_pos rfl]
theorem mag_turn (a : Int) : mag (-a) = mag a := by unfold mag; split <;> split <;> omega
theorem flong_turn (a b c : Int) : flong (-a) (-b) (-c) = flong a b c := by unfold flong; rw [mag_turn, mag_turn, mag_turn]
theorem wrap_turn {a : Int} (ha : I64 a) : (a = -9223372036854775808 ∧ IntKind.i64.wrap (-a) = -9223372036854775808) ∨ IntKind.i64.wrap (-a) = -a := by
  by_cases h : a = -9223372036854775808
  · subst h; exact .inl ⟨rfl, by decide⟩
  · obtain ⟨h0, h1⟩ := ha
    exact .inr (wrapI (by omega) (by omega))
theorem wrap_near {a : Int} (ha : I64 a) (h : -65536 ≤ IntKind.i64.wrap (-a) ∧ IntKind.i64.wrap (-a) ≤ 65536) : IntKind.i64.wrap (-a) = -a ∧ -65536 ≤ a ∧ a ≤ 65536 := by
  rcases wrap_turn ha with ⟨_, e⟩ | e
  · rw [e] at h; omega
  · rw [e] at h; exact ⟨e, by omega, by omega⟩
/-- Turned round, each axis of Vel is turned. -/
theorem newS_turn {i o k x y z a b c a' b' c' : Int} {q r : Sh} {n m : Int} (ia : I64 a) (ib : I64 b) (ic : I64 c) (ea : IntKind.i64.wrap (-a) = a') (eb : IntKind.i64.wrap (-b) = b') (ec : IntKind.i64.wrap (-c) = c')
    (h : newS i o k x y z a b c = (q, n)) (h' : newS i o k x y z a' b' c' = (r, m)) :
    n = m ∧ IntKind.i64.wrap (-q.vx) = r.vx ∧ IntKind.i64.wrap (-q.vy) = r.vy ∧ IntKind.i64.wrap (-q.vz) = r.vz ∧ q.fu = r.fu := by
  subst ea; subst eb; subst ec
  rcases newS_cases h with ⟨rfl, rfl⟩ | ⟨rfl, c1, ha, hb, hc, s, f, hk, rfl⟩
  · rcases newS_cases h' with ⟨rfl, rfl⟩ | ⟨rfl, c1, ha, hb, hc, s, f, hk, rfl⟩
    · exact ⟨rfl, by decide, by decide, by decide, rfl⟩
    · obtain ⟨e1, ha⟩ := wrap_near ia ha
      obtain ⟨e2, hb⟩ := wrap_near ib hb
      obtain ⟨e3, hc⟩ := wrap_near ic hc
      rw [e1, e2, e3] at c1
      rw [newS_makes (by omega) ha hb hc hk] at h
      exact absurd (Prod.mk.inj h).2 (by omega)
  · have e1 : IntKind.i64.wrap (-a) = -a := wrapI (by omega) (by omega)
    have e2 : IntKind.i64.wrap (-b) = -b := wrapI (by omega) (by omega)
    have e3 : IntKind.i64.wrap (-c) = -c := wrapI (by omega) (by omega)
    rw [e1, e2, e3, newS_makes (by omega) (by omega) (by omega) (by omega) hk] at h'
    obtain ⟨rfl, rfl⟩ := Prod.mk.inj h'
    dsimp only
    rw [flong_turn, mkv_turn, mkv_turn, mkv_turn]
    obtain ⟨l0, l1, la, lb, lc⟩ := flong_near ha hb hc c1 rfl
    have g1 := mkv_goes (d := a) (s := s) (by omega) l0 la.2 la.1
    have g2 := mkv_goes (d := b) (s := s) (by omega) l0 lb.2 lb.1
    have g3 := mkv_goes (d := c) (s := s) (by omega) l0 lc.2 lc.1
    exact ⟨rfl, wrapI (by omega) (by omega), wrapI (by omega) (by omega), wrapI (by omega) (by omega), rfl⟩
theorem goB_mkv {d s l : Int} (hs : 0 ≤ s) (hl : 0 < l) (h : d ≤ l) (h' : -l ≤ d) : goB d (mkv d s l) s = true := by
  have g := mkv_goes hs hl h h'
  unfold goB
  simp only [Bool.or_eq_true, Bool.and_eq_true, decide_eq_true_eq]
  omega

end Go.Proofs.Ythcmcjklhcfenaa
