import Derived.Test.YtcmjlhcpoajbkaaDoorQDs
import Derived.Test.YtcmjlhcpoajbkaaDoorQHalf
import Derived.Deep.OwnRows
import Derived.Deep.AppendLies
namespace Go.Proofs.YtcmjlhcpoajbkaaDoor
set_option maxRecDepth 10000
open Go.RowKit
theorem owns_shape {w : World} {B s n : Nat} {t : TypeId} {v : Value} {xs : List Value} (h : w.ownsRow B t s v n xs) : ∃ p cap, v = .slice p n cap ∧ n ≤ cap ∧ cap ≤ 9223372036854775807 := by
  obtain ⟨h1, ⟨rfl, rfl⟩ | ⟨g, cap, cur, hv, hg, hh, hc, hm, r⟩⟩ := h
  · exact ⟨none, 0, rfl, Nat.le_refl _, by omega⟩
  · exact ⟨_, cap, hv, hc, by unfold maxLen at hm; omega⟩
end Go.Proofs.YtcmjlhcpoajbkaaDoor
namespace Go.Proofs.YtcmjlhcpoajbkaaDoor
set_option maxRecDepth 10000
open Go.RowKit
theorem Z32_bytes : Bytes Z32 := .of fun x hx => by
  have := List.eq_of_mem_replicate hx
  omega
end Go.Proofs.YtcmjlhcpoajbkaaDoor
namespace Go.Proofs.YtcmjlhcpoajbkaaDoor
set_option maxRecDepth 10000
set_option linter.unusedSimpArgs false
open Go.RowKit
theorem At8.below {w w' : World} {ad : Addr} {D : List Int} (h : At8 w ad D) (hb : Below w.heap.size w w') : At8 w' ad D := fun j hj => by
  rw [hb.cell (block_lt_of_cell (h j hj))]; exact h j hj
end Go.Proofs.YtcmjlhcpoajbkaaDoor
