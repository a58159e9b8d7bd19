/-
  'ModelInverse': runs of it, part 3.
-/
import Derived.Test.YtmmpgglbeaofkaaModelInverset1
namespace Go.Proofs.Ytmmpgglbeaofkaa
open Go.RowKit Ex
set_option maxRecDepth 1000000 in
set_option maxHeartbeats 100000000 in
theorem modelInverse_1_1_x : lawRunT 12 10 200 [.i, .i] [(1, 9, 1), (0, 56, 1)] ([]) modelInverseNms1 = true := by kernel_rfl
set_option maxRecDepth 1000000 in
set_option maxHeartbeats 100000000 in
theorem modelInverse_1_3_x : lawRunT 12 10 200 [.i, .i] [(1, 9, 1), (0, 56, 3)] ([]) modelInverseNms1 = true := by kernel_rfl
set_option maxRecDepth 1000000 in
set_option maxHeartbeats 100000000 in
theorem modelInverse_1_5_x : lawRunT 12 10 200 [.i, .i] [(1, 9, 1), (0, 56, 5)] ([]) modelInverseNms1 = true := by kernel_rfl
set_option maxRecDepth 1000000 in
set_option maxHeartbeats 100000000 in
theorem modelInverse_1_7_x : lawRunT 12 10 200 [.i, .i] [(1, 9, 1), (0, 56, 7)] ([]) modelInverseNms1 = true := by kernel_rfl
set_option maxRecDepth 1000000 in
set_option maxHeartbeats 100000000 in
theorem modelInverse_1_9_x : lawRunT 12 10 200 [.i, .i] [(1, 9, 1), (0, 56, 9)] ([]) modelInverseNms1 = true := by kernel_rfl
set_option maxRecDepth 1000000 in
set_option maxHeartbeats 100000000 in
theorem modelInverse_1_11_x : lawRunT 12 10 200 [.i, .i] [(1, 9, 1), (0, 56, 11)] ([]) modelInverseNms1 = true := by kernel_rfl
set_option maxRecDepth 1000000 in
set_option maxHeartbeats 100000000 in
theorem modelInverse_1_13_x : lawRunT 12 10 200 [.i, .i] [(1, 9, 1), (0, 56, 13)] ([]) modelInverseNms1 = true := by kernel_rfl
set_option maxRecDepth 1000000 in
set_option maxHeartbeats 100000000 in
theorem modelInverse_1_15_x : lawRunT 12 10 200 [.i, .i] [(1, 9, 1), (0, 56, 15)] ([]) modelInverseNms1 = true := by kernel_rfl
set_option maxRecDepth 1000000 in
set_option maxHeartbeats 100000000 in
theorem modelInverse_1_17_x : lawRunT 12 10 200 [.i, .i] [(1, 9, 1), (0, 56, 17)] ([]) modelInverseNms1 = true := by kernel_rfl
set_option maxRecDepth 1000000 in
set_option maxHeartbeats 100000000 in
theorem modelInverse_1_19_x : lawRunT 12 10 200 [.i, .i] [(1, 9, 1), (0, 56, 19)] ([]) modelInverseNms1 = true := by kernel_rfl
set_option maxRecDepth 1000000 in
set_option maxHeartbeats 100000000 in
theorem modelInverse_1_21_x : lawRunT 12 10 200 [.i, .i] [(1, 9, 1), (0, 56, 21)] ([]) modelInverseNms1 = true := by kernel_rfl
set_option maxRecDepth 1000000 in
set_option maxHeartbeats 100000000 in
theorem modelInverse_1_23_x : lawRunT 12 10 200 [.i, .i] [(1, 9, 1), (0, 56, 23)] ([]) modelInverseNms1 = true := by kernel_rfl
set_option maxRecDepth 1000000 in
set_option maxHeartbeats 100000000 in
theorem modelInverse_1_25_x : lawRunT 12 10 200 [.i, .i] [(1, 9, 1), (0, 56, 25)] ([]) modelInverseNms1 = true := by kernel_rfl
set_option maxRecDepth 1000000 in
set_option maxHeartbeats 100000000 in
theorem modelInverse_1_27_x : lawRunT 12 10 200 [.i, .i] [(1, 9, 1), (0, 56, 27)] ([]) modelInverseNms1 = true := by kernel_rfl
set_option maxRecDepth 1000000 in
set_option maxHeartbeats 100000000 in
theorem modelInverse_1_29_x : lawRunT 12 10 200 [.i, .i] [(1, 9, 1), (0, 56, 29)] ([]) modelInverseNms1 = true := by kernel_rfl
set_option maxRecDepth 1000000 in
set_option maxHeartbeats 100000000 in
theorem modelInverse_1_31_x : lawRunT 12 10 200 [.i, .i] [(1, 9, 1), (0, 56, 31)] ([]) modelInverseNms1 = true := by kernel_rfl
set_option maxRecDepth 1000000 in
set_option maxHeartbeats 100000000 in
theorem modelInverse_1_33_x : lawRunT 12 10 200 [.i, .i] [(1, 9, 1), (0, 56, 33)] ([]) modelInverseNms1 = true := by kernel_rfl
set_option maxRecDepth 1000000 in
set_option maxHeartbeats 100000000 in
theorem modelInverse_1_35_x : lawRunT 12 10 200 [.i, .i] [(1, 9, 1), (0, 56, 35)] ([]) modelInverseNms1 = true := by kernel_rfl
set_option maxRecDepth 1000000 in
set_option maxHeartbeats 100000000 in
theorem modelInverse_1_37_x : lawRunT 12 10 200 [.i, .i] [(1, 9, 1), (0, 56, 37)] ([]) modelInverseNms1 = true := by kernel_rfl
set_option maxRecDepth 1000000 in
set_option maxHeartbeats 100000000 in
theorem modelInverse_1_39_x : lawRunT 12 10 200 [.i, .i] [(1, 9, 1), (0, 56, 39)] ([]) modelInverseNms1 = true := by kernel_rfl
set_option maxRecDepth 1000000 in
set_option maxHeartbeats 100000000 in
theorem modelInverse_1_41_x : lawRunT 12 10 200 [.i, .i] [(1, 9, 1), (0, 56, 41)] ([]) modelInverseNms1 = true := by kernel_rfl
set_option maxRecDepth 1000000 in
set_option maxHeartbeats 100000000 in
theorem modelInverse_1_43_x : lawRunT 12 10 200 [.i, .i] [(1, 9, 1), (0, 56, 43)] ([]) modelInverseNms1 = true := by kernel_rfl
set_option maxRecDepth 1000000 in
set_option maxHeartbeats 100000000 in
theorem modelInverse_1_45_x : lawRunT 12 10 200 [.i, .i] [(1, 9, 1), (0, 56, 45)] ([]) modelInverseNms1 = true := by kernel_rfl
set_option maxRecDepth 1000000 in
set_option maxHeartbeats 100000000 in
theorem modelInverse_1_47_x : lawRunT 12 10 200 [.i, .i] [(1, 9, 1), (0, 56, 47)] ([]) modelInverseNms1 = true := by kernel_rfl
set_option maxRecDepth 1000000 in
set_option maxHeartbeats 100000000 in
theorem modelInverse_1_49_x : lawRunT 12 10 200 [.i, .i] [(1, 9, 1), (0, 56, 49)] ([]) modelInverseNms1 = true := by kernel_rfl
set_option maxRecDepth 1000000 in
set_option maxHeartbeats 100000000 in
theorem modelInverse_1_51_x : lawRunT 12 10 200 [.i, .i] [(1, 9, 1), (0, 56, 51)] ([]) modelInverseNms1 = true := by kernel_rfl
set_option maxRecDepth 1000000 in
set_option maxHeartbeats 100000000 in
theorem modelInverse_1_53_x : lawRunT 12 10 200 [.i, .i] [(1, 9, 1), (0, 56, 53)] ([]) modelInverseNms1 = true := by kernel_rfl
set_option maxRecDepth 1000000 in
set_option maxHeartbeats 100000000 in
theorem modelInverse_1_55_x : lawRunT 12 10 200 [.i, .i] [(1, 9, 1), (0, 56, 55)] ([]) modelInverseNms1 = true := by kernel_rfl
end Go.Proofs.Ytmmpgglbeaofkaa
