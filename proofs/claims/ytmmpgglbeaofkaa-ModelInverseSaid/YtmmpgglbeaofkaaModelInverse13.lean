/-
  'ModelInverse': runs of it, part 13.
-/
import Derived.Test.YtmmpgglbeaofkaaModelInverset6
namespace Go.Proofs.Ytmmpgglbeaofkaa
open Go.RowKit Ex
set_option maxRecDepth 1000000 in
set_option maxHeartbeats 100000000 in
theorem modelInverse_6_1_x : lawRunT 12 10 200 [.i, .i] [(1, 9, 6), (0, 56, 1)] ([]) modelInverseNms6 = true := by kernel_rfl
set_option maxRecDepth 1000000 in
set_option maxHeartbeats 100000000 in
theorem modelInverse_6_3_x : lawRunT 12 10 200 [.i, .i] [(1, 9, 6), (0, 56, 3)] ([]) modelInverseNms6 = true := by kernel_rfl
set_option maxRecDepth 1000000 in
set_option maxHeartbeats 100000000 in
theorem modelInverse_6_5_x : lawRunT 12 10 200 [.i, .i] [(1, 9, 6), (0, 56, 5)] ([]) modelInverseNms6 = true := by kernel_rfl
set_option maxRecDepth 1000000 in
set_option maxHeartbeats 100000000 in
theorem modelInverse_6_7_x : lawRunT 12 10 200 [.i, .i] [(1, 9, 6), (0, 56, 7)] ([]) modelInverseNms6 = true := by kernel_rfl
set_option maxRecDepth 1000000 in
set_option maxHeartbeats 100000000 in
theorem modelInverse_6_9_x : lawRunT 12 10 200 [.i, .i] [(1, 9, 6), (0, 56, 9)] ([]) modelInverseNms6 = true := by kernel_rfl
set_option maxRecDepth 1000000 in
set_option maxHeartbeats 100000000 in
theorem modelInverse_6_11_x : lawRunT 12 10 200 [.i, .i] [(1, 9, 6), (0, 56, 11)] ([]) modelInverseNms6 = true := by kernel_rfl
set_option maxRecDepth 1000000 in
set_option maxHeartbeats 100000000 in
theorem modelInverse_6_13_x : lawRunT 12 10 200 [.i, .i] [(1, 9, 6), (0, 56, 13)] ([]) modelInverseNms6 = true := by kernel_rfl
set_option maxRecDepth 1000000 in
set_option maxHeartbeats 100000000 in
theorem modelInverse_6_15_x : lawRunT 12 10 200 [.i, .i] [(1, 9, 6), (0, 56, 15)] ([]) modelInverseNms6 = true := by kernel_rfl
set_option maxRecDepth 1000000 in
set_option maxHeartbeats 100000000 in
theorem modelInverse_6_17_x : lawRunT 12 10 200 [.i, .i] [(1, 9, 6), (0, 56, 17)] ([]) modelInverseNms6 = true := by kernel_rfl
set_option maxRecDepth 1000000 in
set_option maxHeartbeats 100000000 in
theorem modelInverse_6_19_x : lawRunT 12 10 200 [.i, .i] [(1, 9, 6), (0, 56, 19)] ([]) modelInverseNms6 = true := by kernel_rfl
set_option maxRecDepth 1000000 in
set_option maxHeartbeats 100000000 in
theorem modelInverse_6_21_x : lawRunT 12 10 200 [.i, .i] [(1, 9, 6), (0, 56, 21)] ([]) modelInverseNms6 = true := by kernel_rfl
set_option maxRecDepth 1000000 in
set_option maxHeartbeats 100000000 in
theorem modelInverse_6_23_x : lawRunT 12 10 200 [.i, .i] [(1, 9, 6), (0, 56, 23)] ([]) modelInverseNms6 = true := by kernel_rfl
set_option maxRecDepth 1000000 in
set_option maxHeartbeats 100000000 in
theorem modelInverse_6_25_x : lawRunT 12 10 200 [.i, .i] [(1, 9, 6), (0, 56, 25)] ([]) modelInverseNms6 = true := by kernel_rfl
set_option maxRecDepth 1000000 in
set_option maxHeartbeats 100000000 in
theorem modelInverse_6_27_x : lawRunT 12 10 200 [.i, .i] [(1, 9, 6), (0, 56, 27)] ([]) modelInverseNms6 = true := by kernel_rfl
set_option maxRecDepth 1000000 in
set_option maxHeartbeats 100000000 in
theorem modelInverse_6_29_x : lawRunT 12 10 200 [.i, .i] [(1, 9, 6), (0, 56, 29)] ([]) modelInverseNms6 = true := by kernel_rfl
set_option maxRecDepth 1000000 in
set_option maxHeartbeats 100000000 in
theorem modelInverse_6_31_x : lawRunT 12 10 200 [.i, .i] [(1, 9, 6), (0, 56, 31)] ([]) modelInverseNms6 = true := by kernel_rfl
set_option maxRecDepth 1000000 in
set_option maxHeartbeats 100000000 in
theorem modelInverse_6_33_x : lawRunT 12 10 200 [.i, .i] [(1, 9, 6), (0, 56, 33)] ([]) modelInverseNms6 = true := by kernel_rfl
set_option maxRecDepth 1000000 in
set_option maxHeartbeats 100000000 in
theorem modelInverse_6_35_x : lawRunT 12 10 200 [.i, .i] [(1, 9, 6), (0, 56, 35)] ([]) modelInverseNms6 = true := by kernel_rfl
set_option maxRecDepth 1000000 in
set_option maxHeartbeats 100000000 in
theorem modelInverse_6_37_x : lawRunT 12 10 200 [.i, .i] [(1, 9, 6), (0, 56, 37)] ([]) modelInverseNms6 = true := by kernel_rfl
set_option maxRecDepth 1000000 in
set_option maxHeartbeats 100000000 in
theorem modelInverse_6_39_x : lawRunT 12 10 200 [.i, .i] [(1, 9, 6), (0, 56, 39)] ([]) modelInverseNms6 = true := by kernel_rfl
set_option maxRecDepth 1000000 in
set_option maxHeartbeats 100000000 in
theorem modelInverse_6_41_x : lawRunT 12 10 200 [.i, .i] [(1, 9, 6), (0, 56, 41)] ([]) modelInverseNms6 = true := by kernel_rfl
set_option maxRecDepth 1000000 in
set_option maxHeartbeats 100000000 in
theorem modelInverse_6_43_x : lawRunT 12 10 200 [.i, .i] [(1, 9, 6), (0, 56, 43)] ([]) modelInverseNms6 = true := by kernel_rfl
set_option maxRecDepth 1000000 in
set_option maxHeartbeats 100000000 in
theorem modelInverse_6_45_x : lawRunT 12 10 200 [.i, .i] [(1, 9, 6), (0, 56, 45)] ([]) modelInverseNms6 = true := by kernel_rfl
set_option maxRecDepth 1000000 in
set_option maxHeartbeats 100000000 in
theorem modelInverse_6_47_x : lawRunT 12 10 200 [.i, .i] [(1, 9, 6), (0, 56, 47)] ([]) modelInverseNms6 = true := by kernel_rfl
set_option maxRecDepth 1000000 in
set_option maxHeartbeats 100000000 in
theorem modelInverse_6_49_x : lawRunT 12 10 200 [.i, .i] [(1, 9, 6), (0, 56, 49)] ([]) modelInverseNms6 = true := by kernel_rfl
set_option maxRecDepth 1000000 in
set_option maxHeartbeats 100000000 in
theorem modelInverse_6_51_x : lawRunT 12 10 200 [.i, .i] [(1, 9, 6), (0, 56, 51)] ([]) modelInverseNms6 = true := by kernel_rfl
set_option maxRecDepth 1000000 in
set_option maxHeartbeats 100000000 in
theorem modelInverse_6_53_x : lawRunT 12 10 200 [.i, .i] [(1, 9, 6), (0, 56, 53)] ([]) modelInverseNms6 = true := by kernel_rfl
set_option maxRecDepth 1000000 in
set_option maxHeartbeats 100000000 in
theorem modelInverse_6_55_x : lawRunT 12 10 200 [.i, .i] [(1, 9, 6), (0, 56, 55)] ([]) modelInverseNms6 = true := by kernel_rfl
end Go.Proofs.Ytmmpgglbeaofkaa
