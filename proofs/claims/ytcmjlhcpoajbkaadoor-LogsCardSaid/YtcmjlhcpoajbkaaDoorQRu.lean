import Derived.Test.YtcmjlhcpoajbkaaDoorQRv
import Derived.Test.YtcmjlhcpoajbkaaDoorQTx
import Derived.RangeFuncNested
import Derived.RangeFuncBound
import Derived.RangeFuncCalls
import Derived.RangeFuncLeaves
import Derived.Shelf.Abstract
import Derived.Shelf.RegionOpen
import Derived.WalkKit
import Derived.OwnWalkIn
import Derived.TacticsInMore
import Derived.LoopNIn
import Derived.LoopIn
import Derived.Test.YtcmjlhcpoajbkaaDoorQCl
import Derived.Test.YtcmjlhcpoajbkaaDoorQKd
import Derived.TacticsIn
import Derived.OrdersIn
import Derived.Test.YtcmjlhcpoajbkaaDoorQTag
import Derived.Test.YtcmjlhcpoajbkaaDoorQCa
import Derived.Test.YtcmjlhcpoajbkaaDoorQLf
namespace Go.Proofs.YtcmjlhcpoajbkaaDoor
set_option maxRecDepth 10000
set_option linter.unusedSimpArgs false
open Go.RowKit
theorem Fit.snoc {es : List (List Int)} {x : List Int} (h : Fit es) (hl : es.length < 64) (hx : x.length ≤ 300) (hb : Bytes x) : Fit (es ++ [x]) := by
  refine ⟨by rw [List.length_append]; simp; omega, fun k => ?_⟩
  rcases Nat.lt_trichotomy k es.length with hk | hk | hk
  · rw [List.getD_eq_getElem?_getD, List.getElem?_append_left hk, ← List.getD_eq_getElem?_getD]; exact h.2 k
  · rw [List.getD_eq_getElem?_getD, List.getElem?_append_right (by omega), hk, Nat.sub_self]; exact ⟨hx, hb⟩
  · rw [List.getD_eq_getElem?_getD, List.getElem?_eq_none (by rw [List.length_append]; simp; omega)]
    exact ⟨by simp, fun j => by simp⟩
theorem Fit.nil : Fit [] := ⟨by simp, fun k => by simp [Bytes]⟩
end Go.Proofs.YtcmjlhcpoajbkaaDoor
