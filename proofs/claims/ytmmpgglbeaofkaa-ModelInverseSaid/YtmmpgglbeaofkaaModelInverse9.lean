/-
  'ModelInverse': runs of it, part 9.
-/
import Derived.Test.YtmmpgglbeaofkaaModelInverset4
namespace Go.Proofs.Ytmmpgglbeaofkaa
open Go.RowKit Ex
set_option maxRecDepth 1000000 in
set_option maxHeartbeats 100000000 in
theorem modelInverse_4_1_x : lawRunT 12 10 200 [.i, .i] [(1, 9, 4), (0, 56, 1)] ([]) modelInverseNms4 = true := by kernel_rfl
set_option maxRecDepth 1000000 in
set_option maxHeartbeats 100000000 in
theorem modelInverse_4_3_x : lawRunT 12 10 200 [.i, .i] [(1, 9, 4), (0, 56, 3)] ([]) modelInverseNms4 = true := by kernel_rfl
set_option maxRecDepth 1000000 in
set_option maxHeartbeats 100000000 in
theorem modelInverse_4_5_x : lawRunT 12 10 200 [.i, .i] [(1, 9, 4), (0, 56, 5)] ([]) modelInverseNms4 = true := by kernel_rfl
set_option maxRecDepth 1000000 in
set_option maxHeartbeats 100000000 in
theorem modelInverse_4_7_x : lawRunT 12 10 200 [.i, .i] [(1, 9, 4), (0, 56, 7)] ([]) modelInverseNms4 = true := by kernel_rfl
set_option maxRecDepth 1000000 in
set_option maxHeartbeats 100000000 in
theorem modelInverse_4_9_x : lawRunT 12 10 200 [.i, .i] [(1, 9, 4), (0, 56, 9)] ([]) modelInverseNms4 = true := by kernel_rfl
set_option maxRecDepth 1000000 in
set_option maxHeartbeats 100000000 in
theorem modelInverse_4_11_x : lawRunT 12 10 200 [.i, .i] [(1, 9, 4), (0, 56, 11)] ([]) modelInverseNms4 = true := by kernel_rfl
set_option maxRecDepth 1000000 in
set_option maxHeartbeats 100000000 in
theorem modelInverse_4_13_x : lawRunT 12 10 200 [.i, .i] [(1, 9, 4), (0, 56, 13)] ([]) modelInverseNms4 = true := by kernel_rfl
set_option maxRecDepth 1000000 in
set_option maxHeartbeats 100000000 in
theorem modelInverse_4_15_x : lawRunT 12 10 200 [.i, .i] [(1, 9, 4), (0, 56, 15)] ([]) modelInverseNms4 = true := by kernel_rfl
set_option maxRecDepth 1000000 in
set_option maxHeartbeats 100000000 in
theorem modelInverse_4_17_x : lawRunT 12 10 200 [.i, .i] [(1, 9, 4), (0, 56, 17)] ([]) modelInverseNms4 = true := by kernel_rfl
set_option maxRecDepth 1000000 in
set_option maxHeartbeats 100000000 in
theorem modelInverse_4_19_x : lawRunT 12 10 200 [.i, .i] [(1, 9, 4), (0, 56, 19)] ([]) modelInverseNms4 = true := by kernel_rfl
set_option maxRecDepth 1000000 in
set_option maxHeartbeats 100000000 in
theorem modelInverse_4_21_x : lawRunT 12 10 200 [.i, .i] [(1, 9, 4), (0, 56, 21)] ([]) modelInverseNms4 = true := by kernel_rfl
set_option maxRecDepth 1000000 in
set_option maxHeartbeats 100000000 in
theorem modelInverse_4_23_x : lawRunT 12 10 200 [.i, .i] [(1, 9, 4), (0, 56, 23)] ([]) modelInverseNms4 = true := by kernel_rfl
set_option maxRecDepth 1000000 in
set_option maxHeartbeats 100000000 in
theorem modelInverse_4_25_x : lawRunT 12 10 200 [.i, .i] [(1, 9, 4), (0, 56, 25)] ([]) modelInverseNms4 = true := by kernel_rfl
set_option maxRecDepth 1000000 in
set_option maxHeartbeats 100000000 in
theorem modelInverse_4_27_x : lawRunT 12 10 200 [.i, .i] [(1, 9, 4), (0, 56, 27)] ([]) modelInverseNms4 = true := by kernel_rfl
set_option maxRecDepth 1000000 in
set_option maxHeartbeats 100000000 in
theorem modelInverse_4_29_x : lawRunT 12 10 200 [.i, .i] [(1, 9, 4), (0, 56, 29)] ([]) modelInverseNms4 = true := by kernel_rfl
set_option maxRecDepth 1000000 in
set_option maxHeartbeats 100000000 in
theorem modelInverse_4_31_x : lawRunT 12 10 200 [.i, .i] [(1, 9, 4), (0, 56, 31)] ([]) modelInverseNms4 = true := by kernel_rfl
set_option maxRecDepth 1000000 in
set_option maxHeartbeats 100000000 in
theorem modelInverse_4_33_x : lawRunT 12 10 200 [.i, .i] [(1, 9, 4), (0, 56, 33)] ([]) modelInverseNms4 = true := by kernel_rfl
set_option maxRecDepth 1000000 in
set_option maxHeartbeats 100000000 in
theorem modelInverse_4_35_x : lawRunT 12 10 200 [.i, .i] [(1, 9, 4), (0, 56, 35)] ([]) modelInverseNms4 = true := by kernel_rfl
set_option maxRecDepth 1000000 in
set_option maxHeartbeats 100000000 in
theorem modelInverse_4_37_x : lawRunT 12 10 200 [.i, .i] [(1, 9, 4), (0, 56, 37)] ([]) modelInverseNms4 = true := by kernel_rfl
set_option maxRecDepth 1000000 in
set_option maxHeartbeats 100000000 in
theorem modelInverse_4_39_x : lawRunT 12 10 200 [.i, .i] [(1, 9, 4), (0, 56, 39)] ([]) modelInverseNms4 = true := by kernel_rfl
set_option maxRecDepth 1000000 in
set_option maxHeartbeats 100000000 in
theorem modelInverse_4_41_x : lawRunT 12 10 200 [.i, .i] [(1, 9, 4), (0, 56, 41)] ([]) modelInverseNms4 = true := by kernel_rfl
set_option maxRecDepth 1000000 in
set_option maxHeartbeats 100000000 in
theorem modelInverse_4_43_x : lawRunT 12 10 200 [.i, .i] [(1, 9, 4), (0, 56, 43)] ([]) modelInverseNms4 = true := by kernel_rfl
set_option maxRecDepth 1000000 in
set_option maxHeartbeats 100000000 in
theorem modelInverse_4_45_x : lawRunT 12 10 200 [.i, .i] [(1, 9, 4), (0, 56, 45)] ([]) modelInverseNms4 = true := by kernel_rfl
set_option maxRecDepth 1000000 in
set_option maxHeartbeats 100000000 in
theorem modelInverse_4_47_x : lawRunT 12 10 200 [.i, .i] [(1, 9, 4), (0, 56, 47)] ([]) modelInverseNms4 = true := by kernel_rfl
set_option maxRecDepth 1000000 in
set_option maxHeartbeats 100000000 in
theorem modelInverse_4_49_x : lawRunT 12 10 200 [.i, .i] [(1, 9, 4), (0, 56, 49)] ([]) modelInverseNms4 = true := by kernel_rfl
set_option maxRecDepth 1000000 in
set_option maxHeartbeats 100000000 in
theorem modelInverse_4_51_x : lawRunT 12 10 200 [.i, .i] [(1, 9, 4), (0, 56, 51)] ([]) modelInverseNms4 = true := by kernel_rfl
set_option maxRecDepth 1000000 in
set_option maxHeartbeats 100000000 in
theorem modelInverse_4_53_x : lawRunT 12 10 200 [.i, .i] [(1, 9, 4), (0, 56, 53)] ([]) modelInverseNms4 = true := by kernel_rfl
set_option maxRecDepth 1000000 in
set_option maxHeartbeats 100000000 in
theorem modelInverse_4_55_x : lawRunT 12 10 200 [.i, .i] [(1, 9, 4), (0, 56, 55)] ([]) modelInverseNms4 = true := by kernel_rfl
end Go.Proofs.Ytmmpgglbeaofkaa
