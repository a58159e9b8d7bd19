/-
  'ModelInverse': runs of it, part 11.
-/
import Derived.Test.YtmmpgglbeaofkaaModelInverset5
namespace Go.Proofs.Ytmmpgglbeaofkaa
open Go.RowKit Ex
set_option maxRecDepth 1000000 in
set_option maxHeartbeats 100000000 in
theorem modelInverse_5_1_x : lawRunT 12 10 200 [.i, .i] [(1, 9, 5), (0, 56, 1)] ([]) modelInverseNms5 = true := by kernel_rfl
set_option maxRecDepth 1000000 in
set_option maxHeartbeats 100000000 in
theorem modelInverse_5_3_x : lawRunT 12 10 200 [.i, .i] [(1, 9, 5), (0, 56, 3)] ([]) modelInverseNms5 = true := by kernel_rfl
set_option maxRecDepth 1000000 in
set_option maxHeartbeats 100000000 in
theorem modelInverse_5_5_x : lawRunT 12 10 200 [.i, .i] [(1, 9, 5), (0, 56, 5)] ([]) modelInverseNms5 = true := by kernel_rfl
set_option maxRecDepth 1000000 in
set_option maxHeartbeats 100000000 in
theorem modelInverse_5_7_x : lawRunT 12 10 200 [.i, .i] [(1, 9, 5), (0, 56, 7)] ([]) modelInverseNms5 = true := by kernel_rfl
set_option maxRecDepth 1000000 in
set_option maxHeartbeats 100000000 in
theorem modelInverse_5_9_x : lawRunT 12 10 200 [.i, .i] [(1, 9, 5), (0, 56, 9)] ([]) modelInverseNms5 = true := by kernel_rfl
set_option maxRecDepth 1000000 in
set_option maxHeartbeats 100000000 in
theorem modelInverse_5_11_x : lawRunT 12 10 200 [.i, .i] [(1, 9, 5), (0, 56, 11)] ([]) modelInverseNms5 = true := by kernel_rfl
set_option maxRecDepth 1000000 in
set_option maxHeartbeats 100000000 in
theorem modelInverse_5_13_x : lawRunT 12 10 200 [.i, .i] [(1, 9, 5), (0, 56, 13)] ([]) modelInverseNms5 = true := by kernel_rfl
set_option maxRecDepth 1000000 in
set_option maxHeartbeats 100000000 in
theorem modelInverse_5_15_x : lawRunT 12 10 200 [.i, .i] [(1, 9, 5), (0, 56, 15)] ([]) modelInverseNms5 = true := by kernel_rfl
set_option maxRecDepth 1000000 in
set_option maxHeartbeats 100000000 in
theorem modelInverse_5_17_x : lawRunT 12 10 200 [.i, .i] [(1, 9, 5), (0, 56, 17)] ([]) modelInverseNms5 = true := by kernel_rfl
set_option maxRecDepth 1000000 in
set_option maxHeartbeats 100000000 in
theorem modelInverse_5_19_x : lawRunT 12 10 200 [.i, .i] [(1, 9, 5), (0, 56, 19)] ([]) modelInverseNms5 = true := by kernel_rfl
set_option maxRecDepth 1000000 in
set_option maxHeartbeats 100000000 in
theorem modelInverse_5_21_x : lawRunT 12 10 200 [.i, .i] [(1, 9, 5), (0, 56, 21)] ([]) modelInverseNms5 = true := by kernel_rfl
set_option maxRecDepth 1000000 in
set_option maxHeartbeats 100000000 in
theorem modelInverse_5_23_x : lawRunT 12 10 200 [.i, .i] [(1, 9, 5), (0, 56, 23)] ([]) modelInverseNms5 = true := by kernel_rfl
set_option maxRecDepth 1000000 in
set_option maxHeartbeats 100000000 in
theorem modelInverse_5_25_x : lawRunT 12 10 200 [.i, .i] [(1, 9, 5), (0, 56, 25)] ([]) modelInverseNms5 = true := by kernel_rfl
set_option maxRecDepth 1000000 in
set_option maxHeartbeats 100000000 in
theorem modelInverse_5_27_x : lawRunT 12 10 200 [.i, .i] [(1, 9, 5), (0, 56, 27)] ([]) modelInverseNms5 = true := by kernel_rfl
set_option maxRecDepth 1000000 in
set_option maxHeartbeats 100000000 in
theorem modelInverse_5_29_x : lawRunT 12 10 200 [.i, .i] [(1, 9, 5), (0, 56, 29)] ([]) modelInverseNms5 = true := by kernel_rfl
set_option maxRecDepth 1000000 in
set_option maxHeartbeats 100000000 in
theorem modelInverse_5_31_x : lawRunT 12 10 200 [.i, .i] [(1, 9, 5), (0, 56, 31)] ([]) modelInverseNms5 = true := by kernel_rfl
set_option maxRecDepth 1000000 in
set_option maxHeartbeats 100000000 in
theorem modelInverse_5_33_x : lawRunT 12 10 200 [.i, .i] [(1, 9, 5), (0, 56, 33)] ([]) modelInverseNms5 = true := by kernel_rfl
set_option maxRecDepth 1000000 in
set_option maxHeartbeats 100000000 in
theorem modelInverse_5_35_x : lawRunT 12 10 200 [.i, .i] [(1, 9, 5), (0, 56, 35)] ([]) modelInverseNms5 = true := by kernel_rfl
set_option maxRecDepth 1000000 in
set_option maxHeartbeats 100000000 in
theorem modelInverse_5_37_x : lawRunT 12 10 200 [.i, .i] [(1, 9, 5), (0, 56, 37)] ([]) modelInverseNms5 = true := by kernel_rfl
set_option maxRecDepth 1000000 in
set_option maxHeartbeats 100000000 in
theorem modelInverse_5_39_x : lawRunT 12 10 200 [.i, .i] [(1, 9, 5), (0, 56, 39)] ([]) modelInverseNms5 = true := by kernel_rfl
set_option maxRecDepth 1000000 in
set_option maxHeartbeats 100000000 in
theorem modelInverse_5_41_x : lawRunT 12 10 200 [.i, .i] [(1, 9, 5), (0, 56, 41)] ([]) modelInverseNms5 = true := by kernel_rfl
set_option maxRecDepth 1000000 in
set_option maxHeartbeats 100000000 in
theorem modelInverse_5_43_x : lawRunT 12 10 200 [.i, .i] [(1, 9, 5), (0, 56, 43)] ([]) modelInverseNms5 = true := by kernel_rfl
set_option maxRecDepth 1000000 in
set_option maxHeartbeats 100000000 in
theorem modelInverse_5_45_x : lawRunT 12 10 200 [.i, .i] [(1, 9, 5), (0, 56, 45)] ([]) modelInverseNms5 = true := by kernel_rfl
set_option maxRecDepth 1000000 in
set_option maxHeartbeats 100000000 in
theorem modelInverse_5_47_x : lawRunT 12 10 200 [.i, .i] [(1, 9, 5), (0, 56, 47)] ([]) modelInverseNms5 = true := by kernel_rfl
set_option maxRecDepth 1000000 in
set_option maxHeartbeats 100000000 in
theorem modelInverse_5_49_x : lawRunT 12 10 200 [.i, .i] [(1, 9, 5), (0, 56, 49)] ([]) modelInverseNms5 = true := by kernel_rfl
set_option maxRecDepth 1000000 in
set_option maxHeartbeats 100000000 in
theorem modelInverse_5_51_x : lawRunT 12 10 200 [.i, .i] [(1, 9, 5), (0, 56, 51)] ([]) modelInverseNms5 = true := by kernel_rfl
set_option maxRecDepth 1000000 in
set_option maxHeartbeats 100000000 in
theorem modelInverse_5_53_x : lawRunT 12 10 200 [.i, .i] [(1, 9, 5), (0, 56, 53)] ([]) modelInverseNms5 = true := by kernel_rfl
set_option maxRecDepth 1000000 in
set_option maxHeartbeats 100000000 in
theorem modelInverse_5_55_x : lawRunT 12 10 200 [.i, .i] [(1, 9, 5), (0, 56, 55)] ([]) modelInverseNms5 = true := by kernel_rfl
end Go.Proofs.Ytmmpgglbeaofkaa
