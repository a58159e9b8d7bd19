/-
  'JacNorms': runs of it, part 12.
-/
import Derived.Test.YtlgifofnejncpaaGreatJacNormst2
namespace Go.Proofs.YtlgifofnejncpaaGreat
open Go.RowKit Ex
set_option maxRecDepth 1000000 in
set_option maxHeartbeats 100000000 in
theorem jacNorms_2_x_w0 : lawRunJ 4 10 200 [.q, .i, .i, .i] [(1, 4, 2)] ([]) jacNormsNms2 = true := by kernel_rfl
end Go.Proofs.YtlgifofnejncpaaGreat
