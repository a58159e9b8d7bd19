/-
  'ModelInverse': what names stand for, where the first rest is 1.
-/
import Derived.Test.YtmmpgglbeaofkaaB5w
namespace Go.Proofs.Ytmmpgglbeaofkaa
open Go.RowKit Ex
def modelInverseNms1 : Nms := []
set_option maxRecDepth 1000000 in
set_option maxHeartbeats 100000000 in
theorem modelInverseGood1 : tabGood 100 modelInverseNms1 = true := by kernel_rfl
end Go.Proofs.Ytmmpgglbeaofkaa
