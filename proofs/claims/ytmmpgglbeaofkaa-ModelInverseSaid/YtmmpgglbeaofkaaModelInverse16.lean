/-
  'ModelInverse': runs of it, part 16.
-/
import Derived.Test.YtmmpgglbeaofkaaModelInverset8
namespace Go.Proofs.Ytmmpgglbeaofkaa
open Go.RowKit Ex
set_option maxRecDepth 1000000 in
set_option maxHeartbeats 100000000 in
theorem modelInverse_8_0_x : lawRunT 12 10 200 [.i, .i] [(1, 9, 8), (0, 56, 0)] ([]) modelInverseNms8 = true := by kernel_rfl
set_option maxRecDepth 1000000 in
set_option maxHeartbeats 100000000 in
theorem modelInverse_8_2_x : lawRunT 12 10 200 [.i, .i] [(1, 9, 8), (0, 56, 2)] ([]) modelInverseNms8 = true := by kernel_rfl
set_option maxRecDepth 1000000 in
set_option maxHeartbeats 100000000 in
theorem modelInverse_8_4_x : lawRunT 12 10 200 [.i, .i] [(1, 9, 8), (0, 56, 4)] ([]) modelInverseNms8 = true := by kernel_rfl
set_option maxRecDepth 1000000 in
set_option maxHeartbeats 100000000 in
theorem modelInverse_8_6_x : lawRunT 12 10 200 [.i, .i] [(1, 9, 8), (0, 56, 6)] ([]) modelInverseNms8 = true := by kernel_rfl
set_option maxRecDepth 1000000 in
set_option maxHeartbeats 100000000 in
theorem modelInverse_8_8_x : lawRunT 12 10 200 [.i, .i] [(1, 9, 8), (0, 56, 8)] ([]) modelInverseNms8 = true := by kernel_rfl
set_option maxRecDepth 1000000 in
set_option maxHeartbeats 100000000 in
theorem modelInverse_8_10_x : lawRunT 12 10 200 [.i, .i] [(1, 9, 8), (0, 56, 10)] ([]) modelInverseNms8 = true := by kernel_rfl
set_option maxRecDepth 1000000 in
set_option maxHeartbeats 100000000 in
theorem modelInverse_8_12_x : lawRunT 12 10 200 [.i, .i] [(1, 9, 8), (0, 56, 12)] ([]) modelInverseNms8 = true := by kernel_rfl
set_option maxRecDepth 1000000 in
set_option maxHeartbeats 100000000 in
theorem modelInverse_8_14_x : lawRunT 12 10 200 [.i, .i] [(1, 9, 8), (0, 56, 14)] ([]) modelInverseNms8 = true := by kernel_rfl
set_option maxRecDepth 1000000 in
set_option maxHeartbeats 100000000 in
theorem modelInverse_8_16_x : lawRunT 12 10 200 [.i, .i] [(1, 9, 8), (0, 56, 16)] ([]) modelInverseNms8 = true := by kernel_rfl
set_option maxRecDepth 1000000 in
set_option maxHeartbeats 100000000 in
theorem modelInverse_8_18_x : lawRunT 12 10 200 [.i, .i] [(1, 9, 8), (0, 56, 18)] ([]) modelInverseNms8 = true := by kernel_rfl
set_option maxRecDepth 1000000 in
set_option maxHeartbeats 100000000 in
theorem modelInverse_8_20_x : lawRunT 12 10 200 [.i, .i] [(1, 9, 8), (0, 56, 20)] ([]) modelInverseNms8 = true := by kernel_rfl
set_option maxRecDepth 1000000 in
set_option maxHeartbeats 100000000 in
theorem modelInverse_8_22_x : lawRunT 12 10 200 [.i, .i] [(1, 9, 8), (0, 56, 22)] ([]) modelInverseNms8 = true := by kernel_rfl
set_option maxRecDepth 1000000 in
set_option maxHeartbeats 100000000 in
theorem modelInverse_8_24_x : lawRunT 12 10 200 [.i, .i] [(1, 9, 8), (0, 56, 24)] ([]) modelInverseNms8 = true := by kernel_rfl
set_option maxRecDepth 1000000 in
set_option maxHeartbeats 100000000 in
theorem modelInverse_8_26_x : lawRunT 12 10 200 [.i, .i] [(1, 9, 8), (0, 56, 26)] ([]) modelInverseNms8 = true := by kernel_rfl
set_option maxRecDepth 1000000 in
set_option maxHeartbeats 100000000 in
theorem modelInverse_8_28_x : lawRunT 12 10 200 [.i, .i] [(1, 9, 8), (0, 56, 28)] ([]) modelInverseNms8 = true := by kernel_rfl
set_option maxRecDepth 1000000 in
set_option maxHeartbeats 100000000 in
theorem modelInverse_8_30_x : lawRunT 12 10 200 [.i, .i] [(1, 9, 8), (0, 56, 30)] ([]) modelInverseNms8 = true := by kernel_rfl
set_option maxRecDepth 1000000 in
set_option maxHeartbeats 100000000 in
theorem modelInverse_8_32_x : lawRunT 12 10 200 [.i, .i] [(1, 9, 8), (0, 56, 32)] ([]) modelInverseNms8 = true := by kernel_rfl
set_option maxRecDepth 1000000 in
set_option maxHeartbeats 100000000 in
theorem modelInverse_8_34_x : lawRunT 12 10 200 [.i, .i] [(1, 9, 8), (0, 56, 34)] ([]) modelInverseNms8 = true := by kernel_rfl
set_option maxRecDepth 1000000 in
set_option maxHeartbeats 100000000 in
theorem modelInverse_8_36_x : lawRunT 12 10 200 [.i, .i] [(1, 9, 8), (0, 56, 36)] ([]) modelInverseNms8 = true := by kernel_rfl
set_option maxRecDepth 1000000 in
set_option maxHeartbeats 100000000 in
theorem modelInverse_8_38_x : lawRunT 12 10 200 [.i, .i] [(1, 9, 8), (0, 56, 38)] ([]) modelInverseNms8 = true := by kernel_rfl
set_option maxRecDepth 1000000 in
set_option maxHeartbeats 100000000 in
theorem modelInverse_8_40_x : lawRunT 12 10 200 [.i, .i] [(1, 9, 8), (0, 56, 40)] ([]) modelInverseNms8 = true := by kernel_rfl
set_option maxRecDepth 1000000 in
set_option maxHeartbeats 100000000 in
theorem modelInverse_8_42_x : lawRunT 12 10 200 [.i, .i] [(1, 9, 8), (0, 56, 42)] ([]) modelInverseNms8 = true := by kernel_rfl
set_option maxRecDepth 1000000 in
set_option maxHeartbeats 100000000 in
theorem modelInverse_8_44_x : lawRunT 12 10 200 [.i, .i] [(1, 9, 8), (0, 56, 44)] ([]) modelInverseNms8 = true := by kernel_rfl
set_option maxRecDepth 1000000 in
set_option maxHeartbeats 100000000 in
theorem modelInverse_8_46_x : lawRunT 12 10 200 [.i, .i] [(1, 9, 8), (0, 56, 46)] ([]) modelInverseNms8 = true := by kernel_rfl
set_option maxRecDepth 1000000 in
set_option maxHeartbeats 100000000 in
theorem modelInverse_8_48_x : lawRunT 12 10 200 [.i, .i] [(1, 9, 8), (0, 56, 48)] ([]) modelInverseNms8 = true := by kernel_rfl
set_option maxRecDepth 1000000 in
set_option maxHeartbeats 100000000 in
theorem modelInverse_8_50_x : lawRunT 12 10 200 [.i, .i] [(1, 9, 8), (0, 56, 50)] ([]) modelInverseNms8 = true := by kernel_rfl
set_option maxRecDepth 1000000 in
set_option maxHeartbeats 100000000 in
theorem modelInverse_8_52_x : lawRunT 12 10 200 [.i, .i] [(1, 9, 8), (0, 56, 52)] ([]) modelInverseNms8 = true := by kernel_rfl
set_option maxRecDepth 1000000 in
set_option maxHeartbeats 100000000 in
theorem modelInverse_8_54_x : lawRunT 12 10 200 [.i, .i] [(1, 9, 8), (0, 56, 54)] ([]) modelInverseNms8 = true := by kernel_rfl
end Go.Proofs.Ytmmpgglbeaofkaa
