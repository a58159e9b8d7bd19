/-
  'JacNorms': runs of it, part 6.
-/
import Derived.Test.YtlgifofnejncpaaGreatJacNormst1
namespace Go.Proofs.YtlgifofnejncpaaGreat
open Go.RowKit Ex
set_option maxRecDepth 1000000 in
set_option maxHeartbeats 100000000 in
theorem jacNorms_1_x_w0 : lawRunJ 4 10 200 [.q, .i, .i, .i] [(1, 4, 1)] ([]) jacNormsNms1 = true := by kernel_rfl
end Go.Proofs.YtlgifofnejncpaaGreat
