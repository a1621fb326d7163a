import Derived.Test.YtcmjlhcpoajbkaaDoorQRow
import Derived.Test.YtcmjlhcpoajbkaaDoorQCa
import Derived.Test.YtcmjlhcpoajbkaaDoorQKd
import Derived.Carry
import Derived.Test.YtcmjlhcpoajbkaaDoorQAp
import Derived.Test.YtcmjlhcpoajbkaaDoorQHh
import Derived.Test.YtcmjlhcpoajbkaaDoorQPt
import Derived.Test.YtcmjlhcpoajbkaaDoorQCl
import Derived.Test.YtcmjlhcpoajbkaaDoorQDs
import Derived.Test.YtcmjlhcpoajbkaaDoorQTx
import Derived.Test.YtcmjlhcpoajbkaaDoorQLs
namespace Go.Proofs.YtcmjlhcpoajbkaaDoor
set_option maxRecDepth 100000
open Go.ChangeShapes Go.WideShapes Go.ChangeAt Go.RowKit
theorem cells5 : Tryd.prog.cellsOf 5 = 1 := by kernel_rfl
end Go.Proofs.YtcmjlhcpoajbkaaDoor
namespace Go.Proofs.YtcmjlhcpoajbkaaDoor
set_option maxRecDepth 100000
open Go.ChangeShapes Go.WideShapes Go.ChangeAt Go.RowKit
theorem cells22 : Tryd.prog.cellsOf 22 = 1 := by kernel_rfl
theorem spot_of {w : World} {a : Addr} {v : Value} (h : w.cell? (a.add 0) = some v) : a = ⟨a.block, a.off, none⟩ := by
  cases a with
  | mk b o s =>
    cases s with
    | none => rfl
    | some s =>
      unfold Addr.add World.cell? at h
      split at h <;> simp at h
theorem weights_all {H : Type} {P : Program} {e : TypeId} : ∀ {l : List (DataW H)} {d : DataW H}, d ∈ l → ∀ n ∈ d.weights P e, n ∈ DataW.weightsAll P e l
  | x :: r, d, hd, n, hn => by
    rw [DataW.weightsAll, List.mem_append]
    rcases List.mem_cons.1 hd with h | h
    · subst h; exact .inl hn
    · exact .inr (weights_all h n hn)
end Go.Proofs.YtcmjlhcpoajbkaaDoor
