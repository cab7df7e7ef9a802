/- Layer 10 (trace): what its walks want. -/
import Derived.Test.YthcmcjklhcfenaaTrS
import Derived.Test.YthcmcjklhcfenaaTrD
namespace Go.Proofs.Ythcmcjklhcfenaa
open Go.RowKit
set_option linter.unusedVariables false
set_option linter.unusedSimpArgs false
attribute [local go_sem ↓] Go.wp_at_zero Go.wp_at_succ

theorem O3.set5 {w : World} {b c : Nat} {t : TypeId} {x y z : Value} (h : O3 w b t x y z) (hc : b ≠ c) (y0 y1 y2 y3 y4 : Value) : O3 (((((w.setCell ⟨c, 0, none⟩ y0).setCell ⟨c, 1, none⟩ y1).setCell ⟨c, 2, none⟩ y2).setCell ⟨c, 3, none⟩ y3).setCell ⟨c, 4, none⟩ y4) b t x y z :=
  ((((h.other hc y0).other hc y1).other hc y2).other hc y3).other hc y4
end Go.Proofs.Ythcmcjklhcfenaa
