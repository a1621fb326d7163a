import Derived.RangeFuncNested
import Derived.RangeFuncBound
import Derived.RangeFuncCalls
import Derived.RangeFuncLeaves
import Derived.Shelf.Abstract
import Derived.Shelf.RegionOpen
import Derived.WalkKit
import Derived.OwnWalkIn
import Derived.TacticsInMore
import Derived.LoopNIn
import Derived.LoopIn
import Derived.Test.YtcmjlhcpoajbkaaDoorQCl
import Derived.Test.YtcmjlhcpoajbkaaDoorQKd
import Derived.TacticsIn
import Derived.OrdersIn
import Derived.Test.YtcmjlhcpoajbkaaDoorQTag
import Derived.Test.YtcmjlhcpoajbkaaDoorQCa
import Derived.Test.YtcmjlhcpoajbkaaDoorQAp
import Derived.Test.YtcmjlhcpoajbkaaDoorQHh
import Derived.Test.YtcmjlhcpoajbkaaDoorQPt
import Derived.Test.YtcmjlhcpoajbkaaDoorQDs
import Derived.Test.YtcmjlhcpoajbkaaDoorQTx
import Derived.Test.YtcmjlhcpoajbkaaDoorQLs
import Derived.Test.YtcmjlhcpoajbkaaDoorQLp
namespace Go.Proofs.YtcmjlhcpoajbkaaDoor
set_option maxRecDepth 10000
set_option linter.unusedSimpArgs false
open Go.RowKit
theorem wpList_neq {ops : Array Oper} {rest : List Oper} {o : Oper} {a : Act} {w : World} {Q : Exit → Act → World → Prop} (hw : Region.wanted o (yielded ops a.tmps) = true) (x y : Operand) (ho : o.op = .binOp .neq 25 x y 25) (D E : List Int) (hl : D.length = 32) (hb : Bytes D) (hl' : E.length = 32) (hb' : Bytes E)
    (hx : a.eval x = .agg (A8 D)) (hy : a.eval y = .agg (A8 E)) (h : wpList Tryd.prog ops Q rest (a.put o.dst (.bool (!decide (D = E)))) w) : wpList Tryd.prog ops Q (o :: rest) a w := by
  have e := neq_D D E hl hb hl' hb' w
  have g := run_eqGuard_agg (P := Tryd.prog) w .neq 25 x y (A8 D) (A8 E) (by kernel_rfl)
  refine wpList_w hw fun _ hK => ?_
  unfold Oper.wp execOp
  simp only [ho, hx, hy, Sem.run_bind, g, e, Result.andThen_ok, Sem.run_pure]
  exact hK _ _ h
end Go.Proofs.YtcmjlhcpoajbkaaDoor
