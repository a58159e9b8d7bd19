/-
  'NordCorrects': what names stand for, where the first rest is 2.
-/
import Derived.Test.YtkncchofgehnpaaM8e
namespace Go.Proofs.Ytkncchofgehnpaa
open Go.RowKit Ex
def nordCorrectsNms2 : Nms := []
set_option maxRecDepth 1000000 in
set_option maxHeartbeats 100000000 in
theorem nordCorrectsGood2 : tabGood 100 nordCorrectsNms2 = true := by kernel_rfl
end Go.Proofs.Ytkncchofgehnpaa
