/- Layer 5 (message): what comes of a way that cuts is of its types; right messages, by the way that checks. No program of Go but its values. -/
import Derived.Test.YtkmiogaklmgnkaaMsF
namespace Go.Proofs.Ytkmiogaklmgnkaa
open Go.RowKit Go.Shelf Pg
set_option linter.unusedVariables false

def Tight {σ : Type} (h : Step σ) : Prop := ∀ (g : Bool) (s : σ) (n : Int) (r : Rm), (h g s n r).1 = 0 ∨ r.has (h g s n r).1
theorem Tight.rng {σ : Type} {h : Step σ} (ht : Tight h) (g : Bool) (s : σ) (n : Int) (r : Rm) (lo hi : Int) (h1 : lo ≤ 0 ∧ 0 ≤ hi) (h2 : lo ≤ r.least ∧ r.most ≤ hi) : lo ≤ (h g s n r).1 ∧ (h g s n r).1 ≤ hi := by
  rcases ht g s n r with e | e
  · rw [e]; exact h1
  · obtain ⟨e1, e2⟩ := e; omega
theorem loadGo_bytes {σ : Type} {h : Step σ} (ht : Tight h) (bs : List Nat) (k : Nat) (acc : List Nat) (s : σ) (ha : ∀ y ∈ acc, y < 256) : ∀ y ∈ ((loadGo bs k acc).run h s).1, y < 256 := by
  induction k generalizing bs acc s with
  | zero => exact ha
  | succ k ih =>
    refine ih _ _ _ (fun y hy => ?_)
    rcases List.mem_append.1 hy with hy | hy
    · exact ha y hy
    · have := ht.rng false s (bs.headD 0 : Nat) (uns 8) 0 255 (by decide) (by decide)
      simp only [List.mem_singleton] at hy
      omega
theorem loadGo_len {σ : Type} {h : Step σ} (bs : List Nat) (k : Nat) (acc : List Nat) (s : σ) : ((loadGo bs k acc).run h s).1.length = acc.length + k := by
  induction k generalizing bs acc s with
  | zero => rfl
  | succ k ih => rw [loadGo, run_ask, ih]; simp; omega
theorem bare_ok (k : Int) : MOk (bare k) := ⟨by simp [bare], by simp [bare, c0], by simp [bare, c0], by simp [bare, c0], by simp [bare, c0], by simp [bare], by simp [bare], by simp [bare], by simp [bare]⟩
theorem fieldsP_ok {σ : Type} {h : Step σ} (ht : Tight h) (m : Msg) (k : Int) (s : σ) : MOk ((fieldsP m k).run h s).1 ∧ ((fieldsP m k).run h s).1.bytes.length ≤ 1023 := by
  unfold fieldsP
  split
  · simp only [cmdP, run_bind, run_ask, run_ret]
    exact ⟨⟨(bare_ok k).seq, ht.rng _ _ _ _ _ _ (by decide) (by decide), ht.rng _ _ _ _ _ _ (by decide) (by decide), ht.rng _ _ _ _ _ _ (by decide) (by decide), ht.rng _ _ _ _ _ _ (by decide) (by decide), (bare_ok k).prov, (bare_ok k).tick, (bare_ok k).base, (bare_ok k).byte⟩, by simp [bare]⟩
  split
  · simp only [run_bind, run_ask, run_ret]
    exact ⟨⟨(bare_ok k).seq, (bare_ok k).cseq, (bare_ok k).but, (bare_ok k).dx, (bare_ok k).dy, ht.rng _ _ _ _ _ _ (by decide) (by decide), (bare_ok k).tick, (bare_ok k).base, (bare_ok k).byte⟩, by simp [bare]⟩
  split
  · simp only [run_bind, run_ask, run_ret]
    exact ⟨⟨ht.rng _ _ _ _ _ _ (by decide) (by decide), (bare_ok k).cseq, (bare_ok k).but, (bare_ok k).dx, (bare_ok k).dy, (bare_ok k).prov, (bare_ok k).tick, (bare_ok k).base, (bare_ok k).byte⟩, by simp [bare]⟩
  split
  · simp only [run_ask, run_ret]
    exact ⟨⟨(bare_ok k).seq, (bare_ok k).cseq, (bare_ok k).but, (bare_ok k).dx, (bare_ok k).dy, ht.rng _ _ _ _ _ _ (by decide) (by decide), (bare_ok k).tick, (bare_ok k).base, (bare_ok k).byte⟩, by simp [bare]⟩
  split
  · simp only [run_ask, run_ret]
    exact ⟨⟨(bare_ok k).seq, (bare_ok k).cseq, (bare_ok k).but, (bare_ok k).dx, (bare_ok k).dy, (bare_ok k).prov, (bare_ok k).tick, (bare_ok k).base, (bare_ok k).byte⟩, by simp [bare]⟩
  split
  · simp only [run_ask, run_ret]
    exact ⟨⟨(bare_ok k).seq, (bare_ok k).cseq, (bare_ok k).but, (bare_ok k).dx, (bare_ok k).dy, ht.rng _ _ _ _ _ _ (by decide) (by decide), (bare_ok k).tick, (bare_ok k).base, (bare_ok k).byte⟩, by simp [bare]⟩
  split
  · simp only [loadP, run_bind, run_ask, run_ret]
    refine ⟨⟨(bare_ok k).seq, (bare_ok k).cseq, (bare_ok k).but, (bare_ok k).dx, (bare_ok k).dy, (bare_ok k).prov, ht.rng _ _ _ _ _ _ (by decide) (by decide), ht.rng _ _ _ _ _ _ (by decide) (by decide), ?_⟩, ?_⟩
    · exact loadGo_bytes ht _ _ _ _ (fun y hy => by simp at hy)
    · rw [loadGo_len]
      have := ht.rng false (h false (h false s m.tick (uns 32)).2 m.base (uns 32)).2 (m.bytes.length : Nat) (uns 10) 0 1023 (by decide) (by decide)
      simp only [List.length_nil]
      omega
  · exact ⟨bare_ok k, by simp [run_ret, bare]⟩
theorem carr_ok {σ : Type} {h : Step σ} (ht : Tight h) (m : Msg) (s : σ) : MOk ((carr m).run h s).1 ∧ ((carr m).run h s).1.bytes.length ≤ 1023 := fieldsP_ok ht _ _ _
theorem ck_tight : Tight ckS := fun g s n r => by
  unfold ckS
  split
  · rename_i h; exact .inr h
  · exact .inl rfl
theorem rd_tight : Tight rdS := fun g s n r => by
  unfold rdS
  split
  · split
    · split
      · rename_i h; exact .inr h
      · exact .inl rfl
    · exact .inl rfl
  · exact .inl rfl
/-- Is it right? -/
def rgtB (m : Msg) : Bool := decide (((carr m).run ckS false).1 = m) && !((carr m).run ckS false).2
theorem rgtB_iff (m : Msg) : rgtB m = true ↔ Rgt m := by
  unfold rgtB Rgt
  rcases run_ck (carr m) (carr_fit m) with ⟨h1, h2⟩ | ⟨h1, h2⟩
  · rw [h2]; simp [h1]
  · rw [h2]; simp [h1]
/-- A right message is of its types. -/
theorem Rgt.ok {m : Msg} (h : Rgt m) : MOk m ∧ m.bytes.length ≤ 1023 := by
  rcases run_ck (carr m) (carr_fit m) with ⟨h1, h2⟩ | ⟨h1, h2⟩
  · have := carr_ok ck_tight m false
    rw [h2, h.2] at this; exact this
  · exact (h1 h.1).elim
end Go.Proofs.Ytkmiogaklmgnkaa
