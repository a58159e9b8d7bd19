/-
  'ModelInverse': runs of it, part 6.
-/
import Derived.Test.YtmmpgglbeaofkaaModelInverset3
namespace Go.Proofs.Ytmmpgglbeaofkaa
open Go.RowKit Ex
set_option maxRecDepth 1000000 in
set_option maxHeartbeats 100000000 in
theorem modelInverse_3_0_x : lawRunT 12 10 200 [.i, .i] [(1, 9, 3), (0, 56, 0)] ([]) modelInverseNms3 = true := by kernel_rfl
set_option maxRecDepth 1000000 in
set_option maxHeartbeats 100000000 in
theorem modelInverse_3_2_x : lawRunT 12 10 200 [.i, .i] [(1, 9, 3), (0, 56, 2)] ([]) modelInverseNms3 = true := by kernel_rfl
set_option maxRecDepth 1000000 in
set_option maxHeartbeats 100000000 in
theorem modelInverse_3_4_x : lawRunT 12 10 200 [.i, .i] [(1, 9, 3), (0, 56, 4)] ([]) modelInverseNms3 = true := by kernel_rfl
set_option maxRecDepth 1000000 in
set_option maxHeartbeats 100000000 in
theorem modelInverse_3_6_x : lawRunT 12 10 200 [.i, .i] [(1, 9, 3), (0, 56, 6)] ([]) modelInverseNms3 = true := by kernel_rfl
set_option maxRecDepth 1000000 in
set_option maxHeartbeats 100000000 in
theorem modelInverse_3_8_x : lawRunT 12 10 200 [.i, .i] [(1, 9, 3), (0, 56, 8)] ([]) modelInverseNms3 = true := by kernel_rfl
set_option maxRecDepth 1000000 in
set_option maxHeartbeats 100000000 in
theorem modelInverse_3_10_x : lawRunT 12 10 200 [.i, .i] [(1, 9, 3), (0, 56, 10)] ([]) modelInverseNms3 = true := by kernel_rfl
set_option maxRecDepth 1000000 in
set_option maxHeartbeats 100000000 in
theorem modelInverse_3_12_x : lawRunT 12 10 200 [.i, .i] [(1, 9, 3), (0, 56, 12)] ([]) modelInverseNms3 = true := by kernel_rfl
set_option maxRecDepth 1000000 in
set_option maxHeartbeats 100000000 in
theorem modelInverse_3_14_x : lawRunT 12 10 200 [.i, .i] [(1, 9, 3), (0, 56, 14)] ([]) modelInverseNms3 = true := by kernel_rfl
set_option maxRecDepth 1000000 in
set_option maxHeartbeats 100000000 in
theorem modelInverse_3_16_x : lawRunT 12 10 200 [.i, .i] [(1, 9, 3), (0, 56, 16)] ([]) modelInverseNms3 = true := by kernel_rfl
set_option maxRecDepth 1000000 in
set_option maxHeartbeats 100000000 in
theorem modelInverse_3_18_x : lawRunT 12 10 200 [.i, .i] [(1, 9, 3), (0, 56, 18)] ([]) modelInverseNms3 = true := by kernel_rfl
set_option maxRecDepth 1000000 in
set_option maxHeartbeats 100000000 in
theorem modelInverse_3_20_x : lawRunT 12 10 200 [.i, .i] [(1, 9, 3), (0, 56, 20)] ([]) modelInverseNms3 = true := by kernel_rfl
set_option maxRecDepth 1000000 in
set_option maxHeartbeats 100000000 in
theorem modelInverse_3_22_x : lawRunT 12 10 200 [.i, .i] [(1, 9, 3), (0, 56, 22)] ([]) modelInverseNms3 = true := by kernel_rfl
set_option maxRecDepth 1000000 in
set_option maxHeartbeats 100000000 in
theorem modelInverse_3_24_x : lawRunT 12 10 200 [.i, .i] [(1, 9, 3), (0, 56, 24)] ([]) modelInverseNms3 = true := by kernel_rfl
set_option maxRecDepth 1000000 in
set_option maxHeartbeats 100000000 in
theorem modelInverse_3_26_x : lawRunT 12 10 200 [.i, .i] [(1, 9, 3), (0, 56, 26)] ([]) modelInverseNms3 = true := by kernel_rfl
set_option maxRecDepth 1000000 in
set_option maxHeartbeats 100000000 in
theorem modelInverse_3_28_x : lawRunT 12 10 200 [.i, .i] [(1, 9, 3), (0, 56, 28)] ([]) modelInverseNms3 = true := by kernel_rfl
set_option maxRecDepth 1000000 in
set_option maxHeartbeats 100000000 in
theorem modelInverse_3_30_x : lawRunT 12 10 200 [.i, .i] [(1, 9, 3), (0, 56, 30)] ([]) modelInverseNms3 = true := by kernel_rfl
set_option maxRecDepth 1000000 in
set_option maxHeartbeats 100000000 in
theorem modelInverse_3_32_x : lawRunT 12 10 200 [.i, .i] [(1, 9, 3), (0, 56, 32)] ([]) modelInverseNms3 = true := by kernel_rfl
set_option maxRecDepth 1000000 in
set_option maxHeartbeats 100000000 in
theorem modelInverse_3_34_x : lawRunT 12 10 200 [.i, .i] [(1, 9, 3), (0, 56, 34)] ([]) modelInverseNms3 = true := by kernel_rfl
set_option maxRecDepth 1000000 in
set_option maxHeartbeats 100000000 in
theorem modelInverse_3_36_x : lawRunT 12 10 200 [.i, .i] [(1, 9, 3), (0, 56, 36)] ([]) modelInverseNms3 = true := by kernel_rfl
set_option maxRecDepth 1000000 in
set_option maxHeartbeats 100000000 in
theorem modelInverse_3_38_x : lawRunT 12 10 200 [.i, .i] [(1, 9, 3), (0, 56, 38)] ([]) modelInverseNms3 = true := by kernel_rfl
set_option maxRecDepth 1000000 in
set_option maxHeartbeats 100000000 in
theorem modelInverse_3_40_x : lawRunT 12 10 200 [.i, .i] [(1, 9, 3), (0, 56, 40)] ([]) modelInverseNms3 = true := by kernel_rfl
set_option maxRecDepth 1000000 in
set_option maxHeartbeats 100000000 in
theorem modelInverse_3_42_x : lawRunT 12 10 200 [.i, .i] [(1, 9, 3), (0, 56, 42)] ([]) modelInverseNms3 = true := by kernel_rfl
set_option maxRecDepth 1000000 in
set_option maxHeartbeats 100000000 in
theorem modelInverse_3_44_x : lawRunT 12 10 200 [.i, .i] [(1, 9, 3), (0, 56, 44)] ([]) modelInverseNms3 = true := by kernel_rfl
set_option maxRecDepth 1000000 in
set_option maxHeartbeats 100000000 in
theorem modelInverse_3_46_x : lawRunT 12 10 200 [.i, .i] [(1, 9, 3), (0, 56, 46)] ([]) modelInverseNms3 = true := by kernel_rfl
set_option maxRecDepth 1000000 in
set_option maxHeartbeats 100000000 in
theorem modelInverse_3_48_x : lawRunT 12 10 200 [.i, .i] [(1, 9, 3), (0, 56, 48)] ([]) modelInverseNms3 = true := by kernel_rfl
set_option maxRecDepth 1000000 in
set_option maxHeartbeats 100000000 in
theorem modelInverse_3_50_x : lawRunT 12 10 200 [.i, .i] [(1, 9, 3), (0, 56, 50)] ([]) modelInverseNms3 = true := by kernel_rfl
set_option maxRecDepth 1000000 in
set_option maxHeartbeats 100000000 in
theorem modelInverse_3_52_x : lawRunT 12 10 200 [.i, .i] [(1, 9, 3), (0, 56, 52)] ([]) modelInverseNms3 = true := by kernel_rfl
set_option maxRecDepth 1000000 in
set_option maxHeartbeats 100000000 in
theorem modelInverse_3_54_x : lawRunT 12 10 200 [.i, .i] [(1, 9, 3), (0, 56, 54)] ([]) modelInverseNms3 = true := by kernel_rfl
end Go.Proofs.Ytmmpgglbeaofkaa
