import Derived.Test.YtcmjlhcpoajbkaaDoorQRg
import Derived.Test.YtcmjlhcpoajbkaaDoorQKd
import Derived.Test.YtcmjlhcpoajbkaaDoorQLs
namespace Go.Proofs.YtcmjlhcpoajbkaaDoor
set_option maxRecDepth 10000
set_option linter.unusedSimpArgs false
open Go.RowKit
theorem in8_nil (w : World) : In8 w none 0 0 [] := ⟨rfl, fun j => by simp, by omega, by omega, by omega, fun h => by simp at h⟩
end Go.Proofs.YtcmjlhcpoajbkaaDoor
