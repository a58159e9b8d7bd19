/-
  'JacNorms': runs of it, part 23.
-/
import Derived.Test.YtlgifofnejncpaaGreatJacNormst3
namespace Go.Proofs.YtlgifofnejncpaaGreat
open Go.RowKit Ex
set_option maxRecDepth 1000000 in
set_option maxHeartbeats 100000000 in
theorem jacNorms_3_x_w5 : lawRunJ 4 10 200 [.q, .i, .i, .i] [(1, 4, 3)] (((.fc .eql (.vf 149) (.vf 149)), false) :: ((.fc .eql (.vf 143) (.vf 143)), true) :: ((.fc .eql (.vf 137) (.vf 137)), true) :: []) jacNormsNms3 = true := by kernel_rfl
end Go.Proofs.YtlgifofnejncpaaGreat
