/-
  'ModelInverse': runs of it, part 7.
-/
import Derived.Test.YtmmpgglbeaofkaaModelInverset3
namespace Go.Proofs.Ytmmpgglbeaofkaa
open Go.RowKit Ex
set_option maxRecDepth 1000000 in
set_option maxHeartbeats 100000000 in
theorem modelInverse_3_1_x : lawRunT 12 10 200 [.i, .i] [(1, 9, 3), (0, 56, 1)] ([]) modelInverseNms3 = true := by kernel_rfl
set_option maxRecDepth 1000000 in
set_option maxHeartbeats 100000000 in
theorem modelInverse_3_3_x : lawRunT 12 10 200 [.i, .i] [(1, 9, 3), (0, 56, 3)] ([]) modelInverseNms3 = true := by kernel_rfl
set_option maxRecDepth 1000000 in
set_option maxHeartbeats 100000000 in
theorem modelInverse_3_5_x : lawRunT 12 10 200 [.i, .i] [(1, 9, 3), (0, 56, 5)] ([]) modelInverseNms3 = true := by kernel_rfl
set_option maxRecDepth 1000000 in
set_option maxHeartbeats 100000000 in
theorem modelInverse_3_7_x : lawRunT 12 10 200 [.i, .i] [(1, 9, 3), (0, 56, 7)] ([]) modelInverseNms3 = true := by kernel_rfl
set_option maxRecDepth 1000000 in
set_option maxHeartbeats 100000000 in
theorem modelInverse_3_9_x : lawRunT 12 10 200 [.i, .i] [(1, 9, 3), (0, 56, 9)] ([]) modelInverseNms3 = true := by kernel_rfl
set_option maxRecDepth 1000000 in
set_option maxHeartbeats 100000000 in
theorem modelInverse_3_11_x : lawRunT 12 10 200 [.i, .i] [(1, 9, 3), (0, 56, 11)] ([]) modelInverseNms3 = true := by kernel_rfl
set_option maxRecDepth 1000000 in
set_option maxHeartbeats 100000000 in
theorem modelInverse_3_13_x : lawRunT 12 10 200 [.i, .i] [(1, 9, 3), (0, 56, 13)] ([]) modelInverseNms3 = true := by kernel_rfl
set_option maxRecDepth 1000000 in
set_option maxHeartbeats 100000000 in
theorem modelInverse_3_15_x : lawRunT 12 10 200 [.i, .i] [(1, 9, 3), (0, 56, 15)] ([]) modelInverseNms3 = true := by kernel_rfl
set_option maxRecDepth 1000000 in
set_option maxHeartbeats 100000000 in
theorem modelInverse_3_17_x : lawRunT 12 10 200 [.i, .i] [(1, 9, 3), (0, 56, 17)] ([]) modelInverseNms3 = true := by kernel_rfl
set_option maxRecDepth 1000000 in
set_option maxHeartbeats 100000000 in
theorem modelInverse_3_19_x : lawRunT 12 10 200 [.i, .i] [(1, 9, 3), (0, 56, 19)] ([]) modelInverseNms3 = true := by kernel_rfl
set_option maxRecDepth 1000000 in
set_option maxHeartbeats 100000000 in
theorem modelInverse_3_21_x : lawRunT 12 10 200 [.i, .i] [(1, 9, 3), (0, 56, 21)] ([]) modelInverseNms3 = true := by kernel_rfl
set_option maxRecDepth 1000000 in
set_option maxHeartbeats 100000000 in
theorem modelInverse_3_23_x : lawRunT 12 10 200 [.i, .i] [(1, 9, 3), (0, 56, 23)] ([]) modelInverseNms3 = true := by kernel_rfl
set_option maxRecDepth 1000000 in
set_option maxHeartbeats 100000000 in
theorem modelInverse_3_25_x : lawRunT 12 10 200 [.i, .i] [(1, 9, 3), (0, 56, 25)] ([]) modelInverseNms3 = true := by kernel_rfl
set_option maxRecDepth 1000000 in
set_option maxHeartbeats 100000000 in
theorem modelInverse_3_27_x : lawRunT 12 10 200 [.i, .i] [(1, 9, 3), (0, 56, 27)] ([]) modelInverseNms3 = true := by kernel_rfl
set_option maxRecDepth 1000000 in
set_option maxHeartbeats 100000000 in
theorem modelInverse_3_29_x : lawRunT 12 10 200 [.i, .i] [(1, 9, 3), (0, 56, 29)] ([]) modelInverseNms3 = true := by kernel_rfl
set_option maxRecDepth 1000000 in
set_option maxHeartbeats 100000000 in
theorem modelInverse_3_31_x : lawRunT 12 10 200 [.i, .i] [(1, 9, 3), (0, 56, 31)] ([]) modelInverseNms3 = true := by kernel_rfl
set_option maxRecDepth 1000000 in
set_option maxHeartbeats 100000000 in
theorem modelInverse_3_33_x : lawRunT 12 10 200 [.i, .i] [(1, 9, 3), (0, 56, 33)] ([]) modelInverseNms3 = true := by kernel_rfl
set_option maxRecDepth 1000000 in
set_option maxHeartbeats 100000000 in
theorem modelInverse_3_35_x : lawRunT 12 10 200 [.i, .i] [(1, 9, 3), (0, 56, 35)] ([]) modelInverseNms3 = true := by kernel_rfl
set_option maxRecDepth 1000000 in
set_option maxHeartbeats 100000000 in
theorem modelInverse_3_37_x : lawRunT 12 10 200 [.i, .i] [(1, 9, 3), (0, 56, 37)] ([]) modelInverseNms3 = true := by kernel_rfl
set_option maxRecDepth 1000000 in
set_option maxHeartbeats 100000000 in
theorem modelInverse_3_39_x : lawRunT 12 10 200 [.i, .i] [(1, 9, 3), (0, 56, 39)] ([]) modelInverseNms3 = true := by kernel_rfl
set_option maxRecDepth 1000000 in
set_option maxHeartbeats 100000000 in
theorem modelInverse_3_41_x : lawRunT 12 10 200 [.i, .i] [(1, 9, 3), (0, 56, 41)] ([]) modelInverseNms3 = true := by kernel_rfl
set_option maxRecDepth 1000000 in
set_option maxHeartbeats 100000000 in
theorem modelInverse_3_43_x : lawRunT 12 10 200 [.i, .i] [(1, 9, 3), (0, 56, 43)] ([]) modelInverseNms3 = true := by kernel_rfl
set_option maxRecDepth 1000000 in
set_option maxHeartbeats 100000000 in
theorem modelInverse_3_45_x : lawRunT 12 10 200 [.i, .i] [(1, 9, 3), (0, 56, 45)] ([]) modelInverseNms3 = true := by kernel_rfl
set_option maxRecDepth 1000000 in
set_option maxHeartbeats 100000000 in
theorem modelInverse_3_47_x : lawRunT 12 10 200 [.i, .i] [(1, 9, 3), (0, 56, 47)] ([]) modelInverseNms3 = true := by kernel_rfl
set_option maxRecDepth 1000000 in
set_option maxHeartbeats 100000000 in
theorem modelInverse_3_49_x : lawRunT 12 10 200 [.i, .i] [(1, 9, 3), (0, 56, 49)] ([]) modelInverseNms3 = true := by kernel_rfl
set_option maxRecDepth 1000000 in
set_option maxHeartbeats 100000000 in
theorem modelInverse_3_51_x : lawRunT 12 10 200 [.i, .i] [(1, 9, 3), (0, 56, 51)] ([]) modelInverseNms3 = true := by kernel_rfl
set_option maxRecDepth 1000000 in
set_option maxHeartbeats 100000000 in
theorem modelInverse_3_53_x : lawRunT 12 10 200 [.i, .i] [(1, 9, 3), (0, 56, 53)] ([]) modelInverseNms3 = true := by kernel_rfl
set_option maxRecDepth 1000000 in
set_option maxHeartbeats 100000000 in
theorem modelInverse_3_55_x : lawRunT 12 10 200 [.i, .i] [(1, 9, 3), (0, 56, 55)] ([]) modelInverseNms3 = true := by kernel_rfl
end Go.Proofs.Ytmmpgglbeaofkaa
