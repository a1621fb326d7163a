import Derived.Test.YtcmjlhcpoajbkaaDoorQFa
import Derived.Test.YtcmjlhcpoajbkaaDoorQAp
import Derived.Test.YtcmjlhcpoajbkaaDoorQHh
import Derived.Test.YtcmjlhcpoajbkaaDoorQDs
import Derived.Test.YtcmjlhcpoajbkaaDoorQCl
namespace Go.Proofs.YtcmjlhcpoajbkaaDoor
set_option maxRecDepth 10000
open Go.RowKit
/-- Entries that a log may have. -/
def Fit (es : List (List Int)) : Prop := es.length ≤ 64 ∧ ∀ k, (es.getD k []).length ≤ 300 ∧ Bytes (es.getD k [])
end Go.Proofs.YtcmjlhcpoajbkaaDoor
