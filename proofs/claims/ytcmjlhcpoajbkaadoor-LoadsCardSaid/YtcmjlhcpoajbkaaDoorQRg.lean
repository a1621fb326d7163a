import Derived.Test.YtcmjlhcpoajbkaaDoorQCl
import Derived.Test.YtcmjlhcpoajbkaaDoorQDs
import Derived.Deep.DeepCutAuto
namespace Go.Proofs.YtcmjlhcpoajbkaaDoor
set_option maxRecDepth 10000
set_option linter.unusedSimpArgs false
open Go.RowKit
theorem reworld {P : Program} {ops : Array Oper} {Q : Exit → Act → World → Prop} {md : Region.Mode} {S : World → Prop} {fuel : Nat} {listed : Array Bool} {a : Act} {w w' : World} (hw : w = w')
    (h : wpAnyH P md ops Q S fuel listed a w') : wpAnyH P md ops Q S fuel listed a w := by subst hw; exact h
end Go.Proofs.YtcmjlhcpoajbkaaDoor
