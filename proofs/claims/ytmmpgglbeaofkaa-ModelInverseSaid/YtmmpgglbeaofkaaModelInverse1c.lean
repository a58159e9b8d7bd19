/-
  'ModelInverse': runs of it, part 1c.
-/
import Derived.Test.YtmmpgglbeaofkaaModelInverset0
namespace Go.Proofs.Ytmmpgglbeaofkaa
open Go.RowKit Ex
set_option maxRecDepth 1000000 in
set_option maxHeartbeats 100000000 in
theorem modelInverse_0_43_x : lawRunT 12 10 200 [.i, .i] [(1, 9, 0), (0, 56, 43)] ([]) modelInverseNms0 = true := by kernel_rfl
set_option maxRecDepth 1000000 in
set_option maxHeartbeats 100000000 in
theorem modelInverse_0_45_x : lawRunT 12 10 200 [.i, .i] [(1, 9, 0), (0, 56, 45)] ([]) modelInverseNms0 = true := by kernel_rfl
set_option maxRecDepth 1000000 in
set_option maxHeartbeats 100000000 in
theorem modelInverse_0_47_x : lawRunT 12 10 200 [.i, .i] [(1, 9, 0), (0, 56, 47)] ([]) modelInverseNms0 = true := by kernel_rfl
set_option maxRecDepth 1000000 in
set_option maxHeartbeats 100000000 in
theorem modelInverse_0_49_x : lawRunT 12 10 200 [.i, .i] [(1, 9, 0), (0, 56, 49)] ([]) modelInverseNms0 = true := by kernel_rfl
set_option maxRecDepth 1000000 in
set_option maxHeartbeats 100000000 in
theorem modelInverse_0_51_x : lawRunT 12 10 200 [.i, .i] [(1, 9, 0), (0, 56, 51)] ([]) modelInverseNms0 = true := by kernel_rfl
set_option maxRecDepth 1000000 in
set_option maxHeartbeats 100000000 in
theorem modelInverse_0_53_x : lawRunT 12 10 200 [.i, .i] [(1, 9, 0), (0, 56, 53)] ([]) modelInverseNms0 = true := by kernel_rfl
set_option maxRecDepth 1000000 in
set_option maxHeartbeats 100000000 in
theorem modelInverse_0_55_x : lawRunT 12 10 200 [.i, .i] [(1, 9, 0), (0, 56, 55)] ([]) modelInverseNms0 = true := by kernel_rfl
end Go.Proofs.Ytmmpgglbeaofkaa
