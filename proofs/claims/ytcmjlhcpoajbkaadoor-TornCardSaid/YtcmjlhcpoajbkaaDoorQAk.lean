import Derived.Test.YtcmjlhcpoajbkaaDoorQSv
import Derived.Test.YtcmjlhcpoajbkaaDoorQHe
import Derived.RangeFuncNested
import Derived.RangeFuncBound
import Derived.RangeFuncCalls
import Derived.RangeFuncLeaves
import Derived.Shelf.Abstract
import Derived.Shelf.RegionOpen
import Derived.WalkKit
import Derived.OwnWalkIn
import Derived.TacticsInMore
import Derived.LoopNIn
import Derived.LoopIn
import Derived.Test.YtcmjlhcpoajbkaaDoorQRc
import Derived.Test.YtcmjlhcpoajbkaaDoorQKd
import Derived.TacticsIn
import Derived.OrdersIn
import Derived.Test.YtcmjlhcpoajbkaaDoorQTag
import Derived.Test.YtcmjlhcpoajbkaaDoorQMk
import Derived.Test.YtcmjlhcpoajbkaaDoorQEs
import Derived.Test.YtcmjlhcpoajbkaaDoorQDs
import Derived.Test.YtcmjlhcpoajbkaaDoorQGe
import Derived.Test.YtcmjlhcpoajbkaaDoorQSw
namespace Go.Proofs.YtcmjlhcpoajbkaaDoor
set_option maxRecDepth 10000
set_option linter.unusedSimpArgs false
open Go.RowKit
theorem eq_heads (K : List Int) (E E' : List (List Int)) (hl : E.length = E'.length) (W : World) : (Op.equalIn 10000 42 (.agg (headP K E)) (.agg (headP K E'))).run Tryd.prog W = .ok (decide (rootP E = rootP E')) W := by
  unfold headP
  rw [eqIn_H _ _ _ _ _ _ (rootP_ok E).1 (signP_len _ _ _) (rootP_ok E').1 (signP_len _ _ _) (rootP_ok E).2 (signP_bytes _ _ _) (rootP_ok E').2 (signP_bytes _ _ _) W]
  congr 1
  by_cases h : rootP E = rootP E'
  · rw [decide_eq_true h, decide_eq_true ⟨by rw [hl], h, by rw [hl, h]⟩]
  · rw [decide_eq_false h, decide_eq_false (fun ⟨_, h', _⟩ => h h')]
end Go.Proofs.YtcmjlhcpoajbkaaDoor
