/-
  'ModelInverse': runs of it, part 1.
-/
import Derived.Test.YtmmpgglbeaofkaaModelInverset0
namespace Go.Proofs.Ytmmpgglbeaofkaa
open Go.RowKit Ex
set_option maxRecDepth 1000000 in
set_option maxHeartbeats 100000000 in
theorem modelInverse_0_1_x : lawRunT 12 10 200 [.i, .i] [(1, 9, 0), (0, 56, 1)] ([]) modelInverseNms0 = true := by kernel_rfl
set_option maxRecDepth 1000000 in
set_option maxHeartbeats 100000000 in
theorem modelInverse_0_3_x : lawRunT 12 10 200 [.i, .i] [(1, 9, 0), (0, 56, 3)] ([]) modelInverseNms0 = true := by kernel_rfl
set_option maxRecDepth 1000000 in
set_option maxHeartbeats 100000000 in
theorem modelInverse_0_5_x : lawRunT 12 10 200 [.i, .i] [(1, 9, 0), (0, 56, 5)] ([]) modelInverseNms0 = true := by kernel_rfl
set_option maxRecDepth 1000000 in
set_option maxHeartbeats 100000000 in
theorem modelInverse_0_7_x : lawRunT 12 10 200 [.i, .i] [(1, 9, 0), (0, 56, 7)] ([]) modelInverseNms0 = true := by kernel_rfl
set_option maxRecDepth 1000000 in
set_option maxHeartbeats 100000000 in
theorem modelInverse_0_9_x : lawRunT 12 10 200 [.i, .i] [(1, 9, 0), (0, 56, 9)] ([]) modelInverseNms0 = true := by kernel_rfl
set_option maxRecDepth 1000000 in
set_option maxHeartbeats 100000000 in
theorem modelInverse_0_11_x : lawRunT 12 10 200 [.i, .i] [(1, 9, 0), (0, 56, 11)] ([]) modelInverseNms0 = true := by kernel_rfl
set_option maxRecDepth 1000000 in
set_option maxHeartbeats 100000000 in
theorem modelInverse_0_13_x : lawRunT 12 10 200 [.i, .i] [(1, 9, 0), (0, 56, 13)] ([]) modelInverseNms0 = true := by kernel_rfl
end Go.Proofs.Ytmmpgglbeaofkaa
