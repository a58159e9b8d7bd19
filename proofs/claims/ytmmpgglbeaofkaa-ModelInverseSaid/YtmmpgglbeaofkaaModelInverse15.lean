/-
  'ModelInverse': runs of it, part 15.
-/
import Derived.Test.YtmmpgglbeaofkaaModelInverset7
namespace Go.Proofs.Ytmmpgglbeaofkaa
open Go.RowKit Ex
set_option maxRecDepth 1000000 in
set_option maxHeartbeats 100000000 in
theorem modelInverse_7_1_x : lawRunT 12 10 200 [.i, .i] [(1, 9, 7), (0, 56, 1)] ([]) modelInverseNms7 = true := by kernel_rfl
set_option maxRecDepth 1000000 in
set_option maxHeartbeats 100000000 in
theorem modelInverse_7_3_x : lawRunT 12 10 200 [.i, .i] [(1, 9, 7), (0, 56, 3)] ([]) modelInverseNms7 = true := by kernel_rfl
set_option maxRecDepth 1000000 in
set_option maxHeartbeats 100000000 in
theorem modelInverse_7_5_x : lawRunT 12 10 200 [.i, .i] [(1, 9, 7), (0, 56, 5)] ([]) modelInverseNms7 = true := by kernel_rfl
set_option maxRecDepth 1000000 in
set_option maxHeartbeats 100000000 in
theorem modelInverse_7_7_x : lawRunT 12 10 200 [.i, .i] [(1, 9, 7), (0, 56, 7)] ([]) modelInverseNms7 = true := by kernel_rfl
set_option maxRecDepth 1000000 in
set_option maxHeartbeats 100000000 in
theorem modelInverse_7_9_x : lawRunT 12 10 200 [.i, .i] [(1, 9, 7), (0, 56, 9)] ([]) modelInverseNms7 = true := by kernel_rfl
set_option maxRecDepth 1000000 in
set_option maxHeartbeats 100000000 in
theorem modelInverse_7_11_x : lawRunT 12 10 200 [.i, .i] [(1, 9, 7), (0, 56, 11)] ([]) modelInverseNms7 = true := by kernel_rfl
set_option maxRecDepth 1000000 in
set_option maxHeartbeats 100000000 in
theorem modelInverse_7_13_x : lawRunT 12 10 200 [.i, .i] [(1, 9, 7), (0, 56, 13)] ([]) modelInverseNms7 = true := by kernel_rfl
set_option maxRecDepth 1000000 in
set_option maxHeartbeats 100000000 in
theorem modelInverse_7_15_x : lawRunT 12 10 200 [.i, .i] [(1, 9, 7), (0, 56, 15)] ([]) modelInverseNms7 = true := by kernel_rfl
set_option maxRecDepth 1000000 in
set_option maxHeartbeats 100000000 in
theorem modelInverse_7_17_x : lawRunT 12 10 200 [.i, .i] [(1, 9, 7), (0, 56, 17)] ([]) modelInverseNms7 = true := by kernel_rfl
set_option maxRecDepth 1000000 in
set_option maxHeartbeats 100000000 in
theorem modelInverse_7_19_x : lawRunT 12 10 200 [.i, .i] [(1, 9, 7), (0, 56, 19)] ([]) modelInverseNms7 = true := by kernel_rfl
set_option maxRecDepth 1000000 in
set_option maxHeartbeats 100000000 in
theorem modelInverse_7_21_x : lawRunT 12 10 200 [.i, .i] [(1, 9, 7), (0, 56, 21)] ([]) modelInverseNms7 = true := by kernel_rfl
set_option maxRecDepth 1000000 in
set_option maxHeartbeats 100000000 in
theorem modelInverse_7_23_x : lawRunT 12 10 200 [.i, .i] [(1, 9, 7), (0, 56, 23)] ([]) modelInverseNms7 = true := by kernel_rfl
set_option maxRecDepth 1000000 in
set_option maxHeartbeats 100000000 in
theorem modelInverse_7_25_x : lawRunT 12 10 200 [.i, .i] [(1, 9, 7), (0, 56, 25)] ([]) modelInverseNms7 = true := by kernel_rfl
set_option maxRecDepth 1000000 in
set_option maxHeartbeats 100000000 in
theorem modelInverse_7_27_x : lawRunT 12 10 200 [.i, .i] [(1, 9, 7), (0, 56, 27)] ([]) modelInverseNms7 = true := by kernel_rfl
set_option maxRecDepth 1000000 in
set_option maxHeartbeats 100000000 in
theorem modelInverse_7_29_x : lawRunT 12 10 200 [.i, .i] [(1, 9, 7), (0, 56, 29)] ([]) modelInverseNms7 = true := by kernel_rfl
set_option maxRecDepth 1000000 in
set_option maxHeartbeats 100000000 in
theorem modelInverse_7_31_x : lawRunT 12 10 200 [.i, .i] [(1, 9, 7), (0, 56, 31)] ([]) modelInverseNms7 = true := by kernel_rfl
set_option maxRecDepth 1000000 in
set_option maxHeartbeats 100000000 in
theorem modelInverse_7_33_x : lawRunT 12 10 200 [.i, .i] [(1, 9, 7), (0, 56, 33)] ([]) modelInverseNms7 = true := by kernel_rfl
set_option maxRecDepth 1000000 in
set_option maxHeartbeats 100000000 in
theorem modelInverse_7_35_x : lawRunT 12 10 200 [.i, .i] [(1, 9, 7), (0, 56, 35)] ([]) modelInverseNms7 = true := by kernel_rfl
set_option maxRecDepth 1000000 in
set_option maxHeartbeats 100000000 in
theorem modelInverse_7_37_x : lawRunT 12 10 200 [.i, .i] [(1, 9, 7), (0, 56, 37)] ([]) modelInverseNms7 = true := by kernel_rfl
set_option maxRecDepth 1000000 in
set_option maxHeartbeats 100000000 in
theorem modelInverse_7_39_x : lawRunT 12 10 200 [.i, .i] [(1, 9, 7), (0, 56, 39)] ([]) modelInverseNms7 = true := by kernel_rfl
set_option maxRecDepth 1000000 in
set_option maxHeartbeats 100000000 in
theorem modelInverse_7_41_x : lawRunT 12 10 200 [.i, .i] [(1, 9, 7), (0, 56, 41)] ([]) modelInverseNms7 = true := by kernel_rfl
set_option maxRecDepth 1000000 in
set_option maxHeartbeats 100000000 in
theorem modelInverse_7_43_x : lawRunT 12 10 200 [.i, .i] [(1, 9, 7), (0, 56, 43)] ([]) modelInverseNms7 = true := by kernel_rfl
set_option maxRecDepth 1000000 in
set_option maxHeartbeats 100000000 in
theorem modelInverse_7_45_x : lawRunT 12 10 200 [.i, .i] [(1, 9, 7), (0, 56, 45)] ([]) modelInverseNms7 = true := by kernel_rfl
set_option maxRecDepth 1000000 in
set_option maxHeartbeats 100000000 in
theorem modelInverse_7_47_x : lawRunT 12 10 200 [.i, .i] [(1, 9, 7), (0, 56, 47)] ([]) modelInverseNms7 = true := by kernel_rfl
set_option maxRecDepth 1000000 in
set_option maxHeartbeats 100000000 in
theorem modelInverse_7_49_x : lawRunT 12 10 200 [.i, .i] [(1, 9, 7), (0, 56, 49)] ([]) modelInverseNms7 = true := by kernel_rfl
set_option maxRecDepth 1000000 in
set_option maxHeartbeats 100000000 in
theorem modelInverse_7_51_x : lawRunT 12 10 200 [.i, .i] [(1, 9, 7), (0, 56, 51)] ([]) modelInverseNms7 = true := by kernel_rfl
set_option maxRecDepth 1000000 in
set_option maxHeartbeats 100000000 in
theorem modelInverse_7_53_x : lawRunT 12 10 200 [.i, .i] [(1, 9, 7), (0, 56, 53)] ([]) modelInverseNms7 = true := by kernel_rfl
set_option maxRecDepth 1000000 in
set_option maxHeartbeats 100000000 in
theorem modelInverse_7_55_x : lawRunT 12 10 200 [.i, .i] [(1, 9, 7), (0, 56, 55)] ([]) modelInverseNms7 = true := by kernel_rfl
end Go.Proofs.Ytmmpgglbeaofkaa
