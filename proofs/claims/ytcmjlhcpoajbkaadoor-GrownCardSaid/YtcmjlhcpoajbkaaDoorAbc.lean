import Derived.Test.YtcmjlhcpoajbkaaDoorKnot
namespace Go.Proofs.YtcmjlhcpoajbkaaDoor
set_option maxRecDepth 100000
theorem abc_hash : (hP [97, 98, 99]).take 2 = [186, 120] := by kernel_rfl
end Go.Proofs.YtcmjlhcpoajbkaaDoor
