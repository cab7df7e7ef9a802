/- Layer 10 (trace): what one sees of a way along one axis. -/
import Derived.Test.YtpghdfleffgilaaTwA
namespace Go.Proofs.Ytpghdfleffgilaa
open Go.RowKit
set_option linter.unusedVariables false

theorem Slid.sees {M : Mp} {R : Int → Int → Int → Bool} (hR : ∀ x y z, R x y z = true ↔ M.Room x y z) {x y z a b c x1 y1 z1 : Int} {b1 b2 b3 : Bool} (hx : I64 x) (hy : I64 y) (hz : I64 z) (ha : -32768 ≤ a ∧ a ≤ 32768) (hb : -32768 ≤ b ∧ b ≤ 32768) (hc : -32768 ≤ c ∧ c ≤ 32768)
    (h : Slid R x y z a b c x1 y1 z1 b1 b2 b3) (hr : R x y z = true) (one : (b = 0 ∧ c = 0) ∨ (a = 0 ∧ c = 0) ∨ (a = 0 ∧ b = 0)) : M.Sees ⟨x, y, z⟩ ⟨x1, y1, z1⟩ ∧ R x1 y1 z1 = true := by
  obtain ⟨j1, j2, j3⟩ := h.i64 hx hy hz
  obtain ⟨s0, s1, s2, s3⟩ := h.stays hR hx hy hz ha hb hc hr
  refine ⟨near_sees (((hR _ _ _).1 hr).cell hx hy hz) (((hR _ _ _).1 s0).cell j1 j2 j3) ?_, s0⟩
  have t1 : x1 = x + a ∨ x1 = x := by rcases s1 with ⟨e, _⟩ | ⟨e, _⟩; exact .inl e; exact .inr e
  have t2 : y1 = y + b ∨ y1 = y := by rcases s2 with ⟨e, _⟩ | ⟨e, _⟩; exact .inl e; exact .inr e
  have t3 : z1 = z + c ∨ z1 = z := by rcases s3 with ⟨e, _⟩ | ⟨e, _⟩; exact .inl e; exact .inr e
  omega
end Go.Proofs.Ytpghdfleffgilaa
