/- Layer 5 (message): a message through a way, of whatever kind. -/
import Derived.Test.YtkmiogaklmgnkaaMsF0
import Derived.Test.YtkmiogaklmgnkaaMsF2
import Derived.Test.YtkmiogaklmgnkaaMsF3
import Derived.Test.YtkmiogaklmgnkaaMsF5
import Derived.Test.YtkmiogaklmgnkaaMsF6
import Derived.Test.YtkmiogaklmgnkaaMsF7
import Derived.Test.YtkmiogaklmgnkaaMsF8
import Derived.Test.YtkmiogaklmgnkaaMsF9
import Derived.Test.YtkmiogaklmgnkaaMsG
namespace Go.Proofs.Ytkmiogaklmgnkaa
open Go.RowKit Go.Shelf
set_option linter.unusedVariables false

theorem carriedF {σ : Type} (W : Way σ) {s : σ} {S : Nat → Prop} (m : Msg) (p : Option Addr) (cap : Nat) (w : World) (h : W.At s S w) (hok : (carr m).All W.ok W.step s) (hm : MOk m) (hl : m.bytes.length ≤ 90000 ∨ W.tight) (ha : Arg w p m.bytes.length cap fun i => .int .u8 ((m.bytes.getD i 0 : Nat) : Int)) (hd : m.bytes.length ≠ 0 → ∀ k o, p = some ⟨k, o, none⟩ → ¬ S k) :
    Calls Try.prog 25 #[.agg (msgC m (.slice p m.bytes.length cap)), .iface W.T (.pointer (some ⟨W.b, 0, none⟩))] w fun e w' => ∃ v, e = .returned (.agg (msgC ((carr m).run W.step s).1 v)) ∧ Row w' w.heap.size v ((carr m).run W.step s).1.bytes ∧ ∃ S', W.At ((carr m).run W.step s).2 S' w' ∧ Fr S w w' ∧ Sub w S S' ∧ ∀ k, v.ownBlock = some k → ¬ S' k := by
  by_cases h2 : (W.step false s m.kind rKind).1 = 2
  · exact carried2 W m p cap w h hok hm hl ha hd h2
  by_cases h3 : (W.step false s m.kind rKind).1 = 3
  · exact carried3 W m p cap w h hok hm hl ha hd h3
  by_cases h5 : (W.step false s m.kind rKind).1 = 5
  · exact carried5 W m p cap w h hok hm hl ha hd h5
  by_cases h6 : (W.step false s m.kind rKind).1 = 6
  · exact carried6 W m p cap w h hok hm hl ha hd h6
  by_cases h7 : (W.step false s m.kind rKind).1 = 7
  · exact carried7 W m p cap w h hok hm hl ha hd h7
  by_cases h8 : (W.step false s m.kind rKind).1 = 8
  · exact carried8 W m p cap w h hok hm hl ha hd h8
  by_cases h9 : (W.step false s m.kind rKind).1 = 9
  · exact carried9 W m p cap w h hok hm hl ha hd h9
  exact carried0 W m p cap w h hok hm hl ha hd ⟨h2, h3, h5, h6, h7, h8, h9⟩
end Go.Proofs.Ytkmiogaklmgnkaa
