import Derived.Test.YtcmjlhcpoajbkaaDoorQCl
import Derived.Test.YtcmjlhcpoajbkaaDoorQDs
import Derived.Deep.DeepCutAuto
import Derived.Test.YtcmjlhcpoajbkaaDoorQSg
namespace Go.Proofs.YtcmjlhcpoajbkaaDoor
set_option maxRecDepth 10000
set_option linter.unusedSimpArgs false
open Go.RowKit
theorem reworld {P : Program} {ops : Array Oper} {Q : Exit → Act → World → Prop} {md : Region.Mode} {S : World → Prop} {fuel : Nat} {listed : Array Bool} {a : Act} {w w' : World} (hw : w = w')
    (h : wpAnyH P md ops Q S fuel listed a w') : wpAnyH P md ops Q S fuel listed a w := by subst hw; exact h
end Go.Proofs.YtcmjlhcpoajbkaaDoor
namespace Go.Proofs.YtcmjlhcpoajbkaaDoor
set_option maxRecDepth 10000
set_option linter.unusedSimpArgs false
open Go.RowKit
/-- Bytes as a string. -/
def strV (T : List Int) : Value := .string ⟨(toU T).toArray⟩
theorem bytes_app {a b : List Int} (ha : Bytes a) (hb : Bytes b) : Bytes (a ++ b) := by
  refine .of fun y hy => ?_
  rcases List.mem_append.1 hy with e | e
  · exact ha.mem y e
  · exact hb.mem y e
theorem info9' : ∃ i, Tryd.prog.info? 9 = some i ∧ i.zero = some (.string ⟨#[]⟩) ∧ i.size = 1 ∧ i.bytes = 16 := ⟨_, rfl, by kernel_rfl, by kernel_rfl, by kernel_rfl⟩
theorem str_size (T : List Int) : (ByteArray.mk (toU T).toArray).size = T.length := by show (toU T).toArray.size = _; simp [toU_len]
end Go.Proofs.YtcmjlhcpoajbkaaDoor
