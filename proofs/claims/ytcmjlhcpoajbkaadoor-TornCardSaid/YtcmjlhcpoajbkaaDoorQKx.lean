import Derived.Test.YtcmjlhcpoajbkaaDoorQLd
import Derived.Test.YtcmjlhcpoajbkaaDoorQLf
import Derived.Test.YtcmjlhcpoajbkaaDoorQAk
namespace Go.Proofs.YtcmjlhcpoajbkaaDoor
set_option maxRecDepth 10000
set_option linter.unusedSimpArgs false
open Go.RowKit
theorem LogAt.fit {w : World} {B g : Nat} {ev : Value} {key : List Int} {es : List (List Int)} (h : LogAt w B g ev key es) : Fit es := by
  obtain ⟨vs, _, h5⟩ := h.own
  refine ⟨h.few, fun k => ?_⟩
  rcases Nat.lt_or_ge k es.length with hk | hk
  · obtain ⟨p, n, c, _, e2, e3, _⟩ := h5 k hk
    exact ⟨by rw [e2.len]; exact e3, e2.bytes⟩
  · rw [List.getD_eq_getElem?_getD, List.getElem?_eq_none hk]
    exact ⟨by simp, fun j => by simp⟩
theorem take_short (xs : List Int) (k : Nat) : (xs.take k).take k = xs.take k := by rw [List.take_take, Nat.min_self]
end Go.Proofs.YtcmjlhcpoajbkaaDoor
