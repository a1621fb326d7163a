import Derived.Test.YtcmjlhcpoajbkaaDoorQRow
import Derived.Test.YtcmjlhcpoajbkaaDoorQRc
import Derived.Test.YtcmjlhcpoajbkaaDoorQKd
import Derived.Carry
namespace Go.Proofs.YtcmjlhcpoajbkaaDoor
set_option maxRecDepth 100000
open Go.ChangeShapes Go.WideShapes Go.ChangeAt Go.RowKit
theorem cells5 : Tryd.prog.cellsOf 5 = 1 := by kernel_rfl
end Go.Proofs.YtcmjlhcpoajbkaaDoor
