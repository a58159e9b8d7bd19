/-
  'ModelInverse': runs of it, part 17.
-/
import Derived.Test.YtmmpgglbeaofkaaModelInverset8
namespace Go.Proofs.Ytmmpgglbeaofkaa
open Go.RowKit Ex
set_option maxRecDepth 1000000 in
set_option maxHeartbeats 100000000 in
theorem modelInverse_8_1_x : lawRunT 12 10 200 [.i, .i] [(1, 9, 8), (0, 56, 1)] ([]) modelInverseNms8 = true := by kernel_rfl
set_option maxRecDepth 1000000 in
set_option maxHeartbeats 100000000 in
theorem modelInverse_8_3_x : lawRunT 12 10 200 [.i, .i] [(1, 9, 8), (0, 56, 3)] ([]) modelInverseNms8 = true := by kernel_rfl
set_option maxRecDepth 1000000 in
set_option maxHeartbeats 100000000 in
theorem modelInverse_8_5_x : lawRunT 12 10 200 [.i, .i] [(1, 9, 8), (0, 56, 5)] ([]) modelInverseNms8 = true := by kernel_rfl
set_option maxRecDepth 1000000 in
set_option maxHeartbeats 100000000 in
theorem modelInverse_8_7_x : lawRunT 12 10 200 [.i, .i] [(1, 9, 8), (0, 56, 7)] ([]) modelInverseNms8 = true := by kernel_rfl
set_option maxRecDepth 1000000 in
set_option maxHeartbeats 100000000 in
theorem modelInverse_8_9_x : lawRunT 12 10 200 [.i, .i] [(1, 9, 8), (0, 56, 9)] ([]) modelInverseNms8 = true := by kernel_rfl
set_option maxRecDepth 1000000 in
set_option maxHeartbeats 100000000 in
theorem modelInverse_8_11_x : lawRunT 12 10 200 [.i, .i] [(1, 9, 8), (0, 56, 11)] ([]) modelInverseNms8 = true := by kernel_rfl
set_option maxRecDepth 1000000 in
set_option maxHeartbeats 100000000 in
theorem modelInverse_8_13_x : lawRunT 12 10 200 [.i, .i] [(1, 9, 8), (0, 56, 13)] ([]) modelInverseNms8 = true := by kernel_rfl
set_option maxRecDepth 1000000 in
set_option maxHeartbeats 100000000 in
theorem modelInverse_8_15_x : lawRunT 12 10 200 [.i, .i] [(1, 9, 8), (0, 56, 15)] ([]) modelInverseNms8 = true := by kernel_rfl
set_option maxRecDepth 1000000 in
set_option maxHeartbeats 100000000 in
theorem modelInverse_8_17_x : lawRunT 12 10 200 [.i, .i] [(1, 9, 8), (0, 56, 17)] ([]) modelInverseNms8 = true := by kernel_rfl
set_option maxRecDepth 1000000 in
set_option maxHeartbeats 100000000 in
theorem modelInverse_8_19_x : lawRunT 12 10 200 [.i, .i] [(1, 9, 8), (0, 56, 19)] ([]) modelInverseNms8 = true := by kernel_rfl
set_option maxRecDepth 1000000 in
set_option maxHeartbeats 100000000 in
theorem modelInverse_8_21_x : lawRunT 12 10 200 [.i, .i] [(1, 9, 8), (0, 56, 21)] ([]) modelInverseNms8 = true := by kernel_rfl
set_option maxRecDepth 1000000 in
set_option maxHeartbeats 100000000 in
theorem modelInverse_8_23_x : lawRunT 12 10 200 [.i, .i] [(1, 9, 8), (0, 56, 23)] ([]) modelInverseNms8 = true := by kernel_rfl
set_option maxRecDepth 1000000 in
set_option maxHeartbeats 100000000 in
theorem modelInverse_8_25_x : lawRunT 12 10 200 [.i, .i] [(1, 9, 8), (0, 56, 25)] ([]) modelInverseNms8 = true := by kernel_rfl
set_option maxRecDepth 1000000 in
set_option maxHeartbeats 100000000 in
theorem modelInverse_8_27_x : lawRunT 12 10 200 [.i, .i] [(1, 9, 8), (0, 56, 27)] ([]) modelInverseNms8 = true := by kernel_rfl
set_option maxRecDepth 1000000 in
set_option maxHeartbeats 100000000 in
theorem modelInverse_8_29_x : lawRunT 12 10 200 [.i, .i] [(1, 9, 8), (0, 56, 29)] ([]) modelInverseNms8 = true := by kernel_rfl
set_option maxRecDepth 1000000 in
set_option maxHeartbeats 100000000 in
theorem modelInverse_8_31_x : lawRunT 12 10 200 [.i, .i] [(1, 9, 8), (0, 56, 31)] ([]) modelInverseNms8 = true := by kernel_rfl
set_option maxRecDepth 1000000 in
set_option maxHeartbeats 100000000 in
theorem modelInverse_8_33_x : lawRunT 12 10 200 [.i, .i] [(1, 9, 8), (0, 56, 33)] ([]) modelInverseNms8 = true := by kernel_rfl
set_option maxRecDepth 1000000 in
set_option maxHeartbeats 100000000 in
theorem modelInverse_8_35_x : lawRunT 12 10 200 [.i, .i] [(1, 9, 8), (0, 56, 35)] ([]) modelInverseNms8 = true := by kernel_rfl
set_option maxRecDepth 1000000 in
set_option maxHeartbeats 100000000 in
theorem modelInverse_8_37_x : lawRunT 12 10 200 [.i, .i] [(1, 9, 8), (0, 56, 37)] ([]) modelInverseNms8 = true := by kernel_rfl
set_option maxRecDepth 1000000 in
set_option maxHeartbeats 100000000 in
theorem modelInverse_8_39_x : lawRunT 12 10 200 [.i, .i] [(1, 9, 8), (0, 56, 39)] ([]) modelInverseNms8 = true := by kernel_rfl
set_option maxRecDepth 1000000 in
set_option maxHeartbeats 100000000 in
theorem modelInverse_8_41_x : lawRunT 12 10 200 [.i, .i] [(1, 9, 8), (0, 56, 41)] ([]) modelInverseNms8 = true := by kernel_rfl
set_option maxRecDepth 1000000 in
set_option maxHeartbeats 100000000 in
theorem modelInverse_8_43_x : lawRunT 12 10 200 [.i, .i] [(1, 9, 8), (0, 56, 43)] ([]) modelInverseNms8 = true := by kernel_rfl
set_option maxRecDepth 1000000 in
set_option maxHeartbeats 100000000 in
theorem modelInverse_8_45_x : lawRunT 12 10 200 [.i, .i] [(1, 9, 8), (0, 56, 45)] ([]) modelInverseNms8 = true := by kernel_rfl
set_option maxRecDepth 1000000 in
set_option maxHeartbeats 100000000 in
theorem modelInverse_8_47_x : lawRunT 12 10 200 [.i, .i] [(1, 9, 8), (0, 56, 47)] ([]) modelInverseNms8 = true := by kernel_rfl
set_option maxRecDepth 1000000 in
set_option maxHeartbeats 100000000 in
theorem modelInverse_8_49_x : lawRunT 12 10 200 [.i, .i] [(1, 9, 8), (0, 56, 49)] ([]) modelInverseNms8 = true := by kernel_rfl
set_option maxRecDepth 1000000 in
set_option maxHeartbeats 100000000 in
theorem modelInverse_8_51_x : lawRunT 12 10 200 [.i, .i] [(1, 9, 8), (0, 56, 51)] ([]) modelInverseNms8 = true := by kernel_rfl
set_option maxRecDepth 1000000 in
set_option maxHeartbeats 100000000 in
theorem modelInverse_8_53_x : lawRunT 12 10 200 [.i, .i] [(1, 9, 8), (0, 56, 53)] ([]) modelInverseNms8 = true := by kernel_rfl
set_option maxRecDepth 1000000 in
set_option maxHeartbeats 100000000 in
theorem modelInverse_8_55_x : lawRunT 12 10 200 [.i, .i] [(1, 9, 8), (0, 56, 55)] ([]) modelInverseNms8 = true := by kernel_rfl
end Go.Proofs.Ytmmpgglbeaofkaa
