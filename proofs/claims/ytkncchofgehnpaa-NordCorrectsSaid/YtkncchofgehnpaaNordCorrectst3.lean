/-
  'NordCorrects': what names stand for, where the first rest is 3.
-/
import Derived.Test.YtkncchofgehnpaaM8e
namespace Go.Proofs.Ytkncchofgehnpaa
open Go.RowKit Ex
def nordCorrectsNms3 : Nms := []
set_option maxRecDepth 1000000 in
set_option maxHeartbeats 100000000 in
theorem nordCorrectsGood3 : tabGood 100 nordCorrectsNms3 = true := by kernel_rfl
end Go.Proofs.Ytkncchofgehnpaa
