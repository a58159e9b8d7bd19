/-
  'ModelInverse': runs of it, part 2.
-/
import Derived.Test.YtmmpgglbeaofkaaModelInverset1
namespace Go.Proofs.Ytmmpgglbeaofkaa
open Go.RowKit Ex
set_option maxRecDepth 1000000 in
set_option maxHeartbeats 100000000 in
theorem modelInverse_1_0_x : lawRunT 12 10 200 [.i, .i] [(1, 9, 1), (0, 56, 0)] ([]) modelInverseNms1 = true := by kernel_rfl
set_option maxRecDepth 1000000 in
set_option maxHeartbeats 100000000 in
theorem modelInverse_1_2_x : lawRunT 12 10 200 [.i, .i] [(1, 9, 1), (0, 56, 2)] ([]) modelInverseNms1 = true := by kernel_rfl
set_option maxRecDepth 1000000 in
set_option maxHeartbeats 100000000 in
theorem modelInverse_1_4_x : lawRunT 12 10 200 [.i, .i] [(1, 9, 1), (0, 56, 4)] ([]) modelInverseNms1 = true := by kernel_rfl
set_option maxRecDepth 1000000 in
set_option maxHeartbeats 100000000 in
theorem modelInverse_1_6_x : lawRunT 12 10 200 [.i, .i] [(1, 9, 1), (0, 56, 6)] ([]) modelInverseNms1 = true := by kernel_rfl
set_option maxRecDepth 1000000 in
set_option maxHeartbeats 100000000 in
theorem modelInverse_1_8_x : lawRunT 12 10 200 [.i, .i] [(1, 9, 1), (0, 56, 8)] ([]) modelInverseNms1 = true := by kernel_rfl
set_option maxRecDepth 1000000 in
set_option maxHeartbeats 100000000 in
theorem modelInverse_1_10_x : lawRunT 12 10 200 [.i, .i] [(1, 9, 1), (0, 56, 10)] ([]) modelInverseNms1 = true := by kernel_rfl
set_option maxRecDepth 1000000 in
set_option maxHeartbeats 100000000 in
theorem modelInverse_1_12_x : lawRunT 12 10 200 [.i, .i] [(1, 9, 1), (0, 56, 12)] ([]) modelInverseNms1 = true := by kernel_rfl
set_option maxRecDepth 1000000 in
set_option maxHeartbeats 100000000 in
theorem modelInverse_1_14_x : lawRunT 12 10 200 [.i, .i] [(1, 9, 1), (0, 56, 14)] ([]) modelInverseNms1 = true := by kernel_rfl
set_option maxRecDepth 1000000 in
set_option maxHeartbeats 100000000 in
theorem modelInverse_1_16_x : lawRunT 12 10 200 [.i, .i] [(1, 9, 1), (0, 56, 16)] ([]) modelInverseNms1 = true := by kernel_rfl
set_option maxRecDepth 1000000 in
set_option maxHeartbeats 100000000 in
theorem modelInverse_1_18_x : lawRunT 12 10 200 [.i, .i] [(1, 9, 1), (0, 56, 18)] ([]) modelInverseNms1 = true := by kernel_rfl
set_option maxRecDepth 1000000 in
set_option maxHeartbeats 100000000 in
theorem modelInverse_1_20_x : lawRunT 12 10 200 [.i, .i] [(1, 9, 1), (0, 56, 20)] ([]) modelInverseNms1 = true := by kernel_rfl
set_option maxRecDepth 1000000 in
set_option maxHeartbeats 100000000 in
theorem modelInverse_1_22_x : lawRunT 12 10 200 [.i, .i] [(1, 9, 1), (0, 56, 22)] ([]) modelInverseNms1 = true := by kernel_rfl
set_option maxRecDepth 1000000 in
set_option maxHeartbeats 100000000 in
theorem modelInverse_1_24_x : lawRunT 12 10 200 [.i, .i] [(1, 9, 1), (0, 56, 24)] ([]) modelInverseNms1 = true := by kernel_rfl
set_option maxRecDepth 1000000 in
set_option maxHeartbeats 100000000 in
theorem modelInverse_1_26_x : lawRunT 12 10 200 [.i, .i] [(1, 9, 1), (0, 56, 26)] ([]) modelInverseNms1 = true := by kernel_rfl
set_option maxRecDepth 1000000 in
set_option maxHeartbeats 100000000 in
theorem modelInverse_1_28_x : lawRunT 12 10 200 [.i, .i] [(1, 9, 1), (0, 56, 28)] ([]) modelInverseNms1 = true := by kernel_rfl
set_option maxRecDepth 1000000 in
set_option maxHeartbeats 100000000 in
theorem modelInverse_1_30_x : lawRunT 12 10 200 [.i, .i] [(1, 9, 1), (0, 56, 30)] ([]) modelInverseNms1 = true := by kernel_rfl
set_option maxRecDepth 1000000 in
set_option maxHeartbeats 100000000 in
theorem modelInverse_1_32_x : lawRunT 12 10 200 [.i, .i] [(1, 9, 1), (0, 56, 32)] ([]) modelInverseNms1 = true := by kernel_rfl
set_option maxRecDepth 1000000 in
set_option maxHeartbeats 100000000 in
theorem modelInverse_1_34_x : lawRunT 12 10 200 [.i, .i] [(1, 9, 1), (0, 56, 34)] ([]) modelInverseNms1 = true := by kernel_rfl
set_option maxRecDepth 1000000 in
set_option maxHeartbeats 100000000 in
theorem modelInverse_1_36_x : lawRunT 12 10 200 [.i, .i] [(1, 9, 1), (0, 56, 36)] ([]) modelInverseNms1 = true := by kernel_rfl
set_option maxRecDepth 1000000 in
set_option maxHeartbeats 100000000 in
theorem modelInverse_1_38_x : lawRunT 12 10 200 [.i, .i] [(1, 9, 1), (0, 56, 38)] ([]) modelInverseNms1 = true := by kernel_rfl
set_option maxRecDepth 1000000 in
set_option maxHeartbeats 100000000 in
theorem modelInverse_1_40_x : lawRunT 12 10 200 [.i, .i] [(1, 9, 1), (0, 56, 40)] ([]) modelInverseNms1 = true := by kernel_rfl
set_option maxRecDepth 1000000 in
set_option maxHeartbeats 100000000 in
theorem modelInverse_1_42_x : lawRunT 12 10 200 [.i, .i] [(1, 9, 1), (0, 56, 42)] ([]) modelInverseNms1 = true := by kernel_rfl
set_option maxRecDepth 1000000 in
set_option maxHeartbeats 100000000 in
theorem modelInverse_1_44_x : lawRunT 12 10 200 [.i, .i] [(1, 9, 1), (0, 56, 44)] ([]) modelInverseNms1 = true := by kernel_rfl
set_option maxRecDepth 1000000 in
set_option maxHeartbeats 100000000 in
theorem modelInverse_1_46_x : lawRunT 12 10 200 [.i, .i] [(1, 9, 1), (0, 56, 46)] ([]) modelInverseNms1 = true := by kernel_rfl
set_option maxRecDepth 1000000 in
set_option maxHeartbeats 100000000 in
theorem modelInverse_1_48_x : lawRunT 12 10 200 [.i, .i] [(1, 9, 1), (0, 56, 48)] ([]) modelInverseNms1 = true := by kernel_rfl
set_option maxRecDepth 1000000 in
set_option maxHeartbeats 100000000 in
theorem modelInverse_1_50_x : lawRunT 12 10 200 [.i, .i] [(1, 9, 1), (0, 56, 50)] ([]) modelInverseNms1 = true := by kernel_rfl
set_option maxRecDepth 1000000 in
set_option maxHeartbeats 100000000 in
theorem modelInverse_1_52_x : lawRunT 12 10 200 [.i, .i] [(1, 9, 1), (0, 56, 52)] ([]) modelInverseNms1 = true := by kernel_rfl
set_option maxRecDepth 1000000 in
set_option maxHeartbeats 100000000 in
theorem modelInverse_1_54_x : lawRunT 12 10 200 [.i, .i] [(1, 9, 1), (0, 56, 54)] ([]) modelInverseNms1 = true := by kernel_rfl
end Go.Proofs.Ytmmpgglbeaofkaa
