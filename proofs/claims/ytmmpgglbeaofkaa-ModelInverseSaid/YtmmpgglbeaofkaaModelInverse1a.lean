/-
  'ModelInverse': runs of it, part 1a.
-/
import Derived.Test.YtmmpgglbeaofkaaModelInverset0
namespace Go.Proofs.Ytmmpgglbeaofkaa
open Go.RowKit Ex
set_option maxRecDepth 1000000 in
set_option maxHeartbeats 100000000 in
theorem modelInverse_0_15_x : lawRunT 12 10 200 [.i, .i] [(1, 9, 0), (0, 56, 15)] ([]) modelInverseNms0 = true := by kernel_rfl
set_option maxRecDepth 1000000 in
set_option maxHeartbeats 100000000 in
theorem modelInverse_0_17_x : lawRunT 12 10 200 [.i, .i] [(1, 9, 0), (0, 56, 17)] ([]) modelInverseNms0 = true := by kernel_rfl
set_option maxRecDepth 1000000 in
set_option maxHeartbeats 100000000 in
theorem modelInverse_0_19_x : lawRunT 12 10 200 [.i, .i] [(1, 9, 0), (0, 56, 19)] ([]) modelInverseNms0 = true := by kernel_rfl
set_option maxRecDepth 1000000 in
set_option maxHeartbeats 100000000 in
theorem modelInverse_0_21_x : lawRunT 12 10 200 [.i, .i] [(1, 9, 0), (0, 56, 21)] ([]) modelInverseNms0 = true := by kernel_rfl
set_option maxRecDepth 1000000 in
set_option maxHeartbeats 100000000 in
theorem modelInverse_0_23_x : lawRunT 12 10 200 [.i, .i] [(1, 9, 0), (0, 56, 23)] ([]) modelInverseNms0 = true := by kernel_rfl
set_option maxRecDepth 1000000 in
set_option maxHeartbeats 100000000 in
theorem modelInverse_0_25_x : lawRunT 12 10 200 [.i, .i] [(1, 9, 0), (0, 56, 25)] ([]) modelInverseNms0 = true := by kernel_rfl
set_option maxRecDepth 1000000 in
set_option maxHeartbeats 100000000 in
theorem modelInverse_0_27_x : lawRunT 12 10 200 [.i, .i] [(1, 9, 0), (0, 56, 27)] ([]) modelInverseNms0 = true := by kernel_rfl
end Go.Proofs.Ytmmpgglbeaofkaa
