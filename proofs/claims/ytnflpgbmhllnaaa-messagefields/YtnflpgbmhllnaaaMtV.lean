/- Layer 5 (message): a right message with one field another one: is it right? No program of Go. -/
import Derived.Test.YtnflpgbmhllnaaaMtR
namespace Go.Proofs.Ytnflpgbmhllnaaa
open Go.RowKit Go.Shelf Pg
set_option linter.unusedVariables false
set_option linter.unusedSimpArgs false

/-- The letters of a kind's fields, by their places. -/
def hasL (k : Nat) : List Nat := if k = 2 then [1] else if k = 3 then [2, 4, 5] else if k = 5 then [3] else if k = 6 then [0, 7, 8] else if k = 7 then [2, 3] else if k = 8 then [2, 6] else if k = 9 then [9, 10, 11] else []
theorem rgt_parts {m : Msg} (hok : MOk m) (h : Rgt m) : ∃ k : Nat, m.kind = (k : Int) ∧ (k = 1 ∨ k = 2 ∨ k = 3 ∨ k = 4 ∨ k = 5 ∨ k = 6 ∨ k = 7 ∨ k = 8 ∨ k = 9) ∧ m = onlyM m ∧ fieldsOk m := by
  obtain ⟨h1, h2, h3⟩ := (rgt_iff hok).1 h
  exact ⟨m.kind.toNat, by omega, by omega, h1, h3⟩
theorem dec_and {p q : Prop} [Decidable p] [Decidable q] (h : p ↔ q) : decide p = decide q := decide_eq_decide.2 h
theorem fl0 {m : Msg} {k : Nat} (hok : MOk m) (hk : m.kind = (k : Int)) (hk9 : k = 1 ∨ k = 2 ∨ k = 3 ∨ k = 4 ∨ k = 5 ∨ k = 6 ∨ k = 7 ∨ k = 8 ∨ k = 9) (ho : m = onlyM m) (hf : fieldsOk m) (s : Int) (hs : 0 ≤ s ∧ s ≤ 65535) :
    MOk { m with seq := s } ∧ rgtB { m with seq := s } = if (hasL k).contains 0 then true else decide (s = 0) := by
  have hX : MOk { m with seq := s } := ⟨hs, hok.cseq, hok.but, hok.dx, hok.dy, hok.prov, hok.tick, hok.base, hok.byte⟩
  refine ⟨hX, ?_⟩
  rw [rgtB_is hX]
  obtain ⟨kind, seq, ⟨cseq, but, dx, dy, tk⟩, prov, id, shot, ⟨dirx, diry, dirz⟩, why, ⟨posx, posy, posz⟩, ⟨velx, vely, velz⟩, tick, base, bytes⟩ := m
  simp only at hk
  subst hk
  rcases hk9 with rfl | rfl | rfl | rfl | rfl | rfl | rfl | rfl | rfl
  all_goals
    simp [onlyM, fieldsOk, bare, hasL, c0, v0, V3.in] at ho hf ⊢
    try simp_all
    try omega
theorem fl1 {m : Msg} {k : Nat} (hok : MOk m) (hk : m.kind = (k : Int)) (hk9 : k = 1 ∨ k = 2 ∨ k = 3 ∨ k = 4 ∨ k = 5 ∨ k = 6 ∨ k = 7 ∨ k = 8 ∨ k = 9) (ho : m = onlyM m) (hf : fieldsOk m) (n : Int) :
    MOk { m with cmd := { m.cmd with tk := n } } ∧ rgtB { m with cmd := { m.cmd with tk := n } } = if (hasL k).contains 1 then decide (1 ≤ n ∧ n ≤ 8) else decide ({ m.cmd with tk := n } = c0) := by
  have hX : MOk { m with cmd := { m.cmd with tk := n } } := ⟨hok.seq, hok.cseq, hok.but, hok.dx, hok.dy, hok.prov, hok.tick, hok.base, hok.byte⟩
  refine ⟨hX, ?_⟩
  rw [rgtB_is hX]
  obtain ⟨kind, seq, ⟨cseq, but, dx, dy, tk⟩, prov, id, shot, ⟨dirx, diry, dirz⟩, why, ⟨posx, posy, posz⟩, ⟨velx, vely, velz⟩, tick, base, bytes⟩ := m
  simp only at hk
  subst hk
  rcases hk9 with rfl | rfl | rfl | rfl | rfl | rfl | rfl | rfl | rfl
  all_goals
    simp [onlyM, fieldsOk, bare, hasL, c0, v0, V3.in] at ho hf ⊢
    try simp_all
    try omega
theorem fl2 {m : Msg} {k : Nat} (hok : MOk m) (hk : m.kind = (k : Int)) (hk9 : k = 1 ∨ k = 2 ∨ k = 3 ∨ k = 4 ∨ k = 5 ∨ k = 6 ∨ k = 7 ∨ k = 8 ∨ k = 9) (ho : m = onlyM m) (hf : fieldsOk m) (s : Int) (hs : 0 ≤ s ∧ s ≤ 65535) :
    MOk { m with prov := s } ∧ rgtB { m with prov := s } = if (hasL k).contains 2 then true else decide (s = 0) := by
  have hX : MOk { m with prov := s } := ⟨hok.seq, hok.cseq, hok.but, hok.dx, hok.dy, hs, hok.tick, hok.base, hok.byte⟩
  refine ⟨hX, ?_⟩
  rw [rgtB_is hX]
  obtain ⟨kind, seq, ⟨cseq, but, dx, dy, tk⟩, prov, id, shot, ⟨dirx, diry, dirz⟩, why, ⟨posx, posy, posz⟩, ⟨velx, vely, velz⟩, tick, base, bytes⟩ := m
  simp only at hk
  subst hk
  rcases hk9 with rfl | rfl | rfl | rfl | rfl | rfl | rfl | rfl | rfl
  all_goals
    simp [onlyM, fieldsOk, bare, hasL, c0, v0, V3.in] at ho hf ⊢
    try simp_all
    try omega
theorem fl3 {m : Msg} {k : Nat} (hok : MOk m) (hk : m.kind = (k : Int)) (hk9 : k = 1 ∨ k = 2 ∨ k = 3 ∨ k = 4 ∨ k = 5 ∨ k = 6 ∨ k = 7 ∨ k = 8 ∨ k = 9) (ho : m = onlyM m) (hf : fieldsOk m) (n : Int) :
    MOk { m with id := n } ∧ rgtB { m with id := n } = if (hasL k).contains 3 then decide (1 ≤ n ∧ n ≤ 2147483647) else decide (n = 0) := by
  have hX : MOk { m with id := n } := ⟨hok.seq, hok.cseq, hok.but, hok.dx, hok.dy, hok.prov, hok.tick, hok.base, hok.byte⟩
  refine ⟨hX, ?_⟩
  rw [rgtB_is hX]
  obtain ⟨kind, seq, ⟨cseq, but, dx, dy, tk⟩, prov, id, shot, ⟨dirx, diry, dirz⟩, why, ⟨posx, posy, posz⟩, ⟨velx, vely, velz⟩, tick, base, bytes⟩ := m
  simp only at hk
  subst hk
  rcases hk9 with rfl | rfl | rfl | rfl | rfl | rfl | rfl | rfl | rfl
  all_goals
    simp [onlyM, fieldsOk, bare, hasL, c0, v0, V3.in] at ho hf ⊢
    try simp_all
    try omega
theorem fl4 {m : Msg} {k : Nat} (hok : MOk m) (hk : m.kind = (k : Int)) (hk9 : k = 1 ∨ k = 2 ∨ k = 3 ∨ k = 4 ∨ k = 5 ∨ k = 6 ∨ k = 7 ∨ k = 8 ∨ k = 9) (ho : m = onlyM m) (hf : fieldsOk m) (n : Int) :
    MOk { m with dir := { m.dir with y := n } } ∧ rgtB { m with dir := { m.dir with y := n } } = if (hasL k).contains 4 then decide (-65536 ≤ n ∧ n ≤ 65536) else decide ({ m.dir with y := n } = v0) := by
  have hX : MOk { m with dir := { m.dir with y := n } } := ⟨hok.seq, hok.cseq, hok.but, hok.dx, hok.dy, hok.prov, hok.tick, hok.base, hok.byte⟩
  refine ⟨hX, ?_⟩
  rw [rgtB_is hX]
  obtain ⟨kind, seq, ⟨cseq, but, dx, dy, tk⟩, prov, id, shot, ⟨dirx, diry, dirz⟩, why, ⟨posx, posy, posz⟩, ⟨velx, vely, velz⟩, tick, base, bytes⟩ := m
  simp only at hk
  subst hk
  rcases hk9 with rfl | rfl | rfl | rfl | rfl | rfl | rfl | rfl | rfl
  all_goals
    simp [onlyM, fieldsOk, bare, hasL, c0, v0, V3.in] at ho hf ⊢
    try simp_all
    try omega
theorem fl5 {m : Msg} {k : Nat} (hok : MOk m) (hk : m.kind = (k : Int)) (hk9 : k = 1 ∨ k = 2 ∨ k = 3 ∨ k = 4 ∨ k = 5 ∨ k = 6 ∨ k = 7 ∨ k = 8 ∨ k = 9) (ho : m = onlyM m) (hf : fieldsOk m) (n : Int) :
    MOk { m with shot := n } ∧ rgtB { m with shot := n } = if (hasL k).contains 5 then decide (n = 0 ∨ n = 1) else decide (n = 0) := by
  have hX : MOk { m with shot := n } := ⟨hok.seq, hok.cseq, hok.but, hok.dx, hok.dy, hok.prov, hok.tick, hok.base, hok.byte⟩
  refine ⟨hX, ?_⟩
  rw [rgtB_is hX]
  obtain ⟨kind, seq, ⟨cseq, but, dx, dy, tk⟩, prov, id, shot, ⟨dirx, diry, dirz⟩, why, ⟨posx, posy, posz⟩, ⟨velx, vely, velz⟩, tick, base, bytes⟩ := m
  simp only at hk
  subst hk
  rcases hk9 with rfl | rfl | rfl | rfl | rfl | rfl | rfl | rfl | rfl
  all_goals
    simp [onlyM, fieldsOk, bare, hasL, c0, v0, V3.in] at ho hf ⊢
    try simp_all
    try omega
theorem fl6 {m : Msg} {k : Nat} (hok : MOk m) (hk : m.kind = (k : Int)) (hk9 : k = 1 ∨ k = 2 ∨ k = 3 ∨ k = 4 ∨ k = 5 ∨ k = 6 ∨ k = 7 ∨ k = 8 ∨ k = 9) (ho : m = onlyM m) (hf : fieldsOk m) (n : Int) :
    MOk { m with why := n } ∧ rgtB { m with why := n } = if (hasL k).contains 6 then decide (1 ≤ n ∧ n ≤ 10) else decide (n = 0) := by
  have hX : MOk { m with why := n } := ⟨hok.seq, hok.cseq, hok.but, hok.dx, hok.dy, hok.prov, hok.tick, hok.base, hok.byte⟩
  refine ⟨hX, ?_⟩
  rw [rgtB_is hX]
  obtain ⟨kind, seq, ⟨cseq, but, dx, dy, tk⟩, prov, id, shot, ⟨dirx, diry, dirz⟩, why, ⟨posx, posy, posz⟩, ⟨velx, vely, velz⟩, tick, base, bytes⟩ := m
  simp only at hk
  subst hk
  rcases hk9 with rfl | rfl | rfl | rfl | rfl | rfl | rfl | rfl | rfl
  all_goals
    simp [onlyM, fieldsOk, bare, hasL, c0, v0, V3.in] at ho hf ⊢
    try simp_all
    try omega
theorem fl7 {m : Msg} {k : Nat} (hok : MOk m) (hk : m.kind = (k : Int)) (hk9 : k = 1 ∨ k = 2 ∨ k = 3 ∨ k = 4 ∨ k = 5 ∨ k = 6 ∨ k = 7 ∨ k = 8 ∨ k = 9) (ho : m = onlyM m) (hf : fieldsOk m) (n : Int) :
    MOk { m with pos := { m.pos with z := n } } ∧ rgtB { m with pos := { m.pos with z := n } } = if (hasL k).contains 7 then decide (-2147483648 ≤ n ∧ n ≤ 2147483647) else decide ({ m.pos with z := n } = v0) := by
  have hX : MOk { m with pos := { m.pos with z := n } } := ⟨hok.seq, hok.cseq, hok.but, hok.dx, hok.dy, hok.prov, hok.tick, hok.base, hok.byte⟩
  refine ⟨hX, ?_⟩
  rw [rgtB_is hX]
  obtain ⟨kind, seq, ⟨cseq, but, dx, dy, tk⟩, prov, id, shot, ⟨dirx, diry, dirz⟩, why, ⟨posx, posy, posz⟩, ⟨velx, vely, velz⟩, tick, base, bytes⟩ := m
  simp only at hk
  subst hk
  rcases hk9 with rfl | rfl | rfl | rfl | rfl | rfl | rfl | rfl | rfl
  all_goals
    simp [onlyM, fieldsOk, bare, hasL, c0, v0, V3.in] at ho hf ⊢
    try simp_all
    try omega
theorem fl8 {m : Msg} {k : Nat} (hok : MOk m) (hk : m.kind = (k : Int)) (hk9 : k = 1 ∨ k = 2 ∨ k = 3 ∨ k = 4 ∨ k = 5 ∨ k = 6 ∨ k = 7 ∨ k = 8 ∨ k = 9) (ho : m = onlyM m) (hf : fieldsOk m) (n : Int) :
    MOk { m with vel := { m.vel with x := n } } ∧ rgtB { m with vel := { m.vel with x := n } } = if (hasL k).contains 8 then decide (-2147483648 ≤ n ∧ n ≤ 2147483647) else decide ({ m.vel with x := n } = v0) := by
  have hX : MOk { m with vel := { m.vel with x := n } } := ⟨hok.seq, hok.cseq, hok.but, hok.dx, hok.dy, hok.prov, hok.tick, hok.base, hok.byte⟩
  refine ⟨hX, ?_⟩
  rw [rgtB_is hX]
  obtain ⟨kind, seq, ⟨cseq, but, dx, dy, tk⟩, prov, id, shot, ⟨dirx, diry, dirz⟩, why, ⟨posx, posy, posz⟩, ⟨velx, vely, velz⟩, tick, base, bytes⟩ := m
  simp only at hk
  subst hk
  rcases hk9 with rfl | rfl | rfl | rfl | rfl | rfl | rfl | rfl | rfl
  all_goals
    simp [onlyM, fieldsOk, bare, hasL, c0, v0, V3.in] at ho hf ⊢
    try simp_all
    try omega
theorem fl9 {m : Msg} {k : Nat} (hok : MOk m) (hk : m.kind = (k : Int)) (hk9 : k = 1 ∨ k = 2 ∨ k = 3 ∨ k = 4 ∨ k = 5 ∨ k = 6 ∨ k = 7 ∨ k = 8 ∨ k = 9) (ho : m = onlyM m) (hf : fieldsOk m) (s : Int) (hs : 0 ≤ s ∧ s ≤ 4294967295) :
    MOk { m with tick := s } ∧ rgtB { m with tick := s } = if (hasL k).contains 9 then true else decide (s = 0) := by
  have hX : MOk { m with tick := s } := ⟨hok.seq, hok.cseq, hok.but, hok.dx, hok.dy, hok.prov, hs, hok.base, hok.byte⟩
  refine ⟨hX, ?_⟩
  rw [rgtB_is hX]
  obtain ⟨kind, seq, ⟨cseq, but, dx, dy, tk⟩, prov, id, shot, ⟨dirx, diry, dirz⟩, why, ⟨posx, posy, posz⟩, ⟨velx, vely, velz⟩, tick, base, bytes⟩ := m
  simp only at hk
  subst hk
  rcases hk9 with rfl | rfl | rfl | rfl | rfl | rfl | rfl | rfl | rfl
  all_goals
    simp [onlyM, fieldsOk, bare, hasL, c0, v0, V3.in] at ho hf ⊢
    try simp_all
    try omega
theorem fl10 {m : Msg} {k : Nat} (hok : MOk m) (hk : m.kind = (k : Int)) (hk9 : k = 1 ∨ k = 2 ∨ k = 3 ∨ k = 4 ∨ k = 5 ∨ k = 6 ∨ k = 7 ∨ k = 8 ∨ k = 9) (ho : m = onlyM m) (hf : fieldsOk m) (s : Int) (hs : 0 ≤ s ∧ s ≤ 4294967295) :
    MOk { m with base := s } ∧ rgtB { m with base := s } = if (hasL k).contains 10 then true else decide (s = 0) := by
  have hX : MOk { m with base := s } := ⟨hok.seq, hok.cseq, hok.but, hok.dx, hok.dy, hok.prov, hok.tick, hs, hok.byte⟩
  refine ⟨hX, ?_⟩
  rw [rgtB_is hX]
  obtain ⟨kind, seq, ⟨cseq, but, dx, dy, tk⟩, prov, id, shot, ⟨dirx, diry, dirz⟩, why, ⟨posx, posy, posz⟩, ⟨velx, vely, velz⟩, tick, base, bytes⟩ := m
  simp only at hk
  subst hk
  rcases hk9 with rfl | rfl | rfl | rfl | rfl | rfl | rfl | rfl | rfl
  all_goals
    simp [onlyM, fieldsOk, bare, hasL, c0, v0, V3.in] at ho hf ⊢
    try simp_all
    try omega
theorem fl11 {m : Msg} {k : Nat} (hok : MOk m) (hk : m.kind = (k : Int)) (hk9 : k = 1 ∨ k = 2 ∨ k = 3 ∨ k = 4 ∨ k = 5 ∨ k = 6 ∨ k = 7 ∨ k = 8 ∨ k = 9) (ho : m = onlyM m) (hf : fieldsOk m) (c : Nat) (hc : c ≤ 1023) :
    MOk { m with bytes := List.replicate c 0 } ∧ rgtB { m with bytes := List.replicate c 0 } = if (hasL k).contains 11 then true else decide (c = 0) := by
  have hX : MOk { m with bytes := List.replicate c 0 } := ⟨hok.seq, hok.cseq, hok.but, hok.dx, hok.dy, hok.prov, hok.tick, hok.base, (fun y hy => by rw [List.eq_of_mem_replicate hy]; decide)⟩
  refine ⟨hX, ?_⟩
  rw [rgtB_is hX]
  obtain ⟨kind, seq, ⟨cseq, but, dx, dy, tk⟩, prov, id, shot, ⟨dirx, diry, dirz⟩, why, ⟨posx, posy, posz⟩, ⟨velx, vely, velz⟩, tick, base, bytes⟩ := m
  simp only at hk
  subst hk
  rcases hk9 with rfl | rfl | rfl | rfl | rfl | rfl | rfl | rfl | rfl
  all_goals
    simp [onlyM, fieldsOk, bare, hasL, c0, v0, V3.in] at ho hf ⊢
    try simp_all
    try omega
end Go.Proofs.Ytnflpgbmhllnaaa
