/-
  'ModelInverse': runs of it, part 5.
-/
import Derived.Test.YtmmpgglbeaofkaaModelInverset2
namespace Go.Proofs.Ytmmpgglbeaofkaa
open Go.RowKit Ex
set_option maxRecDepth 1000000 in
set_option maxHeartbeats 100000000 in
theorem modelInverse_2_1_x : lawRunT 12 10 200 [.i, .i] [(1, 9, 2), (0, 56, 1)] ([]) modelInverseNms2 = true := by kernel_rfl
set_option maxRecDepth 1000000 in
set_option maxHeartbeats 100000000 in
theorem modelInverse_2_3_x : lawRunT 12 10 200 [.i, .i] [(1, 9, 2), (0, 56, 3)] ([]) modelInverseNms2 = true := by kernel_rfl
set_option maxRecDepth 1000000 in
set_option maxHeartbeats 100000000 in
theorem modelInverse_2_5_x : lawRunT 12 10 200 [.i, .i] [(1, 9, 2), (0, 56, 5)] ([]) modelInverseNms2 = true := by kernel_rfl
set_option maxRecDepth 1000000 in
set_option maxHeartbeats 100000000 in
theorem modelInverse_2_7_x : lawRunT 12 10 200 [.i, .i] [(1, 9, 2), (0, 56, 7)] ([]) modelInverseNms2 = true := by kernel_rfl
set_option maxRecDepth 1000000 in
set_option maxHeartbeats 100000000 in
theorem modelInverse_2_9_x : lawRunT 12 10 200 [.i, .i] [(1, 9, 2), (0, 56, 9)] ([]) modelInverseNms2 = true := by kernel_rfl
set_option maxRecDepth 1000000 in
set_option maxHeartbeats 100000000 in
theorem modelInverse_2_11_x : lawRunT 12 10 200 [.i, .i] [(1, 9, 2), (0, 56, 11)] ([]) modelInverseNms2 = true := by kernel_rfl
set_option maxRecDepth 1000000 in
set_option maxHeartbeats 100000000 in
theorem modelInverse_2_13_x : lawRunT 12 10 200 [.i, .i] [(1, 9, 2), (0, 56, 13)] ([]) modelInverseNms2 = true := by kernel_rfl
set_option maxRecDepth 1000000 in
set_option maxHeartbeats 100000000 in
theorem modelInverse_2_15_x : lawRunT 12 10 200 [.i, .i] [(1, 9, 2), (0, 56, 15)] ([]) modelInverseNms2 = true := by kernel_rfl
set_option maxRecDepth 1000000 in
set_option maxHeartbeats 100000000 in
theorem modelInverse_2_17_x : lawRunT 12 10 200 [.i, .i] [(1, 9, 2), (0, 56, 17)] ([]) modelInverseNms2 = true := by kernel_rfl
set_option maxRecDepth 1000000 in
set_option maxHeartbeats 100000000 in
theorem modelInverse_2_19_x : lawRunT 12 10 200 [.i, .i] [(1, 9, 2), (0, 56, 19)] ([]) modelInverseNms2 = true := by kernel_rfl
set_option maxRecDepth 1000000 in
set_option maxHeartbeats 100000000 in
theorem modelInverse_2_21_x : lawRunT 12 10 200 [.i, .i] [(1, 9, 2), (0, 56, 21)] ([]) modelInverseNms2 = true := by kernel_rfl
set_option maxRecDepth 1000000 in
set_option maxHeartbeats 100000000 in
theorem modelInverse_2_23_x : lawRunT 12 10 200 [.i, .i] [(1, 9, 2), (0, 56, 23)] ([]) modelInverseNms2 = true := by kernel_rfl
set_option maxRecDepth 1000000 in
set_option maxHeartbeats 100000000 in
theorem modelInverse_2_25_x : lawRunT 12 10 200 [.i, .i] [(1, 9, 2), (0, 56, 25)] ([]) modelInverseNms2 = true := by kernel_rfl
set_option maxRecDepth 1000000 in
set_option maxHeartbeats 100000000 in
theorem modelInverse_2_27_x : lawRunT 12 10 200 [.i, .i] [(1, 9, 2), (0, 56, 27)] ([]) modelInverseNms2 = true := by kernel_rfl
set_option maxRecDepth 1000000 in
set_option maxHeartbeats 100000000 in
theorem modelInverse_2_29_x : lawRunT 12 10 200 [.i, .i] [(1, 9, 2), (0, 56, 29)] ([]) modelInverseNms2 = true := by kernel_rfl
set_option maxRecDepth 1000000 in
set_option maxHeartbeats 100000000 in
theorem modelInverse_2_31_x : lawRunT 12 10 200 [.i, .i] [(1, 9, 2), (0, 56, 31)] ([]) modelInverseNms2 = true := by kernel_rfl
set_option maxRecDepth 1000000 in
set_option maxHeartbeats 100000000 in
theorem modelInverse_2_33_x : lawRunT 12 10 200 [.i, .i] [(1, 9, 2), (0, 56, 33)] ([]) modelInverseNms2 = true := by kernel_rfl
set_option maxRecDepth 1000000 in
set_option maxHeartbeats 100000000 in
theorem modelInverse_2_35_x : lawRunT 12 10 200 [.i, .i] [(1, 9, 2), (0, 56, 35)] ([]) modelInverseNms2 = true := by kernel_rfl
set_option maxRecDepth 1000000 in
set_option maxHeartbeats 100000000 in
theorem modelInverse_2_37_x : lawRunT 12 10 200 [.i, .i] [(1, 9, 2), (0, 56, 37)] ([]) modelInverseNms2 = true := by kernel_rfl
set_option maxRecDepth 1000000 in
set_option maxHeartbeats 100000000 in
theorem modelInverse_2_39_x : lawRunT 12 10 200 [.i, .i] [(1, 9, 2), (0, 56, 39)] ([]) modelInverseNms2 = true := by kernel_rfl
set_option maxRecDepth 1000000 in
set_option maxHeartbeats 100000000 in
theorem modelInverse_2_41_x : lawRunT 12 10 200 [.i, .i] [(1, 9, 2), (0, 56, 41)] ([]) modelInverseNms2 = true := by kernel_rfl
set_option maxRecDepth 1000000 in
set_option maxHeartbeats 100000000 in
theorem modelInverse_2_43_x : lawRunT 12 10 200 [.i, .i] [(1, 9, 2), (0, 56, 43)] ([]) modelInverseNms2 = true := by kernel_rfl
set_option maxRecDepth 1000000 in
set_option maxHeartbeats 100000000 in
theorem modelInverse_2_45_x : lawRunT 12 10 200 [.i, .i] [(1, 9, 2), (0, 56, 45)] ([]) modelInverseNms2 = true := by kernel_rfl
set_option maxRecDepth 1000000 in
set_option maxHeartbeats 100000000 in
theorem modelInverse_2_47_x : lawRunT 12 10 200 [.i, .i] [(1, 9, 2), (0, 56, 47)] ([]) modelInverseNms2 = true := by kernel_rfl
set_option maxRecDepth 1000000 in
set_option maxHeartbeats 100000000 in
theorem modelInverse_2_49_x : lawRunT 12 10 200 [.i, .i] [(1, 9, 2), (0, 56, 49)] ([]) modelInverseNms2 = true := by kernel_rfl
set_option maxRecDepth 1000000 in
set_option maxHeartbeats 100000000 in
theorem modelInverse_2_51_x : lawRunT 12 10 200 [.i, .i] [(1, 9, 2), (0, 56, 51)] ([]) modelInverseNms2 = true := by kernel_rfl
set_option maxRecDepth 1000000 in
set_option maxHeartbeats 100000000 in
theorem modelInverse_2_53_x : lawRunT 12 10 200 [.i, .i] [(1, 9, 2), (0, 56, 53)] ([]) modelInverseNms2 = true := by kernel_rfl
set_option maxRecDepth 1000000 in
set_option maxHeartbeats 100000000 in
theorem modelInverse_2_55_x : lawRunT 12 10 200 [.i, .i] [(1, 9, 2), (0, 56, 55)] ([]) modelInverseNms2 = true := by kernel_rfl
end Go.Proofs.Ytmmpgglbeaofkaa
