/-
  'ModelInverse': runs of it, part 14.
-/
import Derived.Test.YtmmpgglbeaofkaaModelInverset7
namespace Go.Proofs.Ytmmpgglbeaofkaa
open Go.RowKit Ex
set_option maxRecDepth 1000000 in
set_option maxHeartbeats 100000000 in
theorem modelInverse_7_0_x : lawRunT 12 10 200 [.i, .i] [(1, 9, 7), (0, 56, 0)] ([]) modelInverseNms7 = true := by kernel_rfl
set_option maxRecDepth 1000000 in
set_option maxHeartbeats 100000000 in
theorem modelInverse_7_2_x : lawRunT 12 10 200 [.i, .i] [(1, 9, 7), (0, 56, 2)] ([]) modelInverseNms7 = true := by kernel_rfl
set_option maxRecDepth 1000000 in
set_option maxHeartbeats 100000000 in
theorem modelInverse_7_4_x : lawRunT 12 10 200 [.i, .i] [(1, 9, 7), (0, 56, 4)] ([]) modelInverseNms7 = true := by kernel_rfl
set_option maxRecDepth 1000000 in
set_option maxHeartbeats 100000000 in
theorem modelInverse_7_6_x : lawRunT 12 10 200 [.i, .i] [(1, 9, 7), (0, 56, 6)] ([]) modelInverseNms7 = true := by kernel_rfl
set_option maxRecDepth 1000000 in
set_option maxHeartbeats 100000000 in
theorem modelInverse_7_8_x : lawRunT 12 10 200 [.i, .i] [(1, 9, 7), (0, 56, 8)] ([]) modelInverseNms7 = true := by kernel_rfl
set_option maxRecDepth 1000000 in
set_option maxHeartbeats 100000000 in
theorem modelInverse_7_10_x : lawRunT 12 10 200 [.i, .i] [(1, 9, 7), (0, 56, 10)] ([]) modelInverseNms7 = true := by kernel_rfl
set_option maxRecDepth 1000000 in
set_option maxHeartbeats 100000000 in
theorem modelInverse_7_12_x : lawRunT 12 10 200 [.i, .i] [(1, 9, 7), (0, 56, 12)] ([]) modelInverseNms7 = true := by kernel_rfl
set_option maxRecDepth 1000000 in
set_option maxHeartbeats 100000000 in
theorem modelInverse_7_14_x : lawRunT 12 10 200 [.i, .i] [(1, 9, 7), (0, 56, 14)] ([]) modelInverseNms7 = true := by kernel_rfl
set_option maxRecDepth 1000000 in
set_option maxHeartbeats 100000000 in
theorem modelInverse_7_16_x : lawRunT 12 10 200 [.i, .i] [(1, 9, 7), (0, 56, 16)] ([]) modelInverseNms7 = true := by kernel_rfl
set_option maxRecDepth 1000000 in
set_option maxHeartbeats 100000000 in
theorem modelInverse_7_18_x : lawRunT 12 10 200 [.i, .i] [(1, 9, 7), (0, 56, 18)] ([]) modelInverseNms7 = true := by kernel_rfl
set_option maxRecDepth 1000000 in
set_option maxHeartbeats 100000000 in
theorem modelInverse_7_20_x : lawRunT 12 10 200 [.i, .i] [(1, 9, 7), (0, 56, 20)] ([]) modelInverseNms7 = true := by kernel_rfl
set_option maxRecDepth 1000000 in
set_option maxHeartbeats 100000000 in
theorem modelInverse_7_22_x : lawRunT 12 10 200 [.i, .i] [(1, 9, 7), (0, 56, 22)] ([]) modelInverseNms7 = true := by kernel_rfl
set_option maxRecDepth 1000000 in
set_option maxHeartbeats 100000000 in
theorem modelInverse_7_24_x : lawRunT 12 10 200 [.i, .i] [(1, 9, 7), (0, 56, 24)] ([]) modelInverseNms7 = true := by kernel_rfl
set_option maxRecDepth 1000000 in
set_option maxHeartbeats 100000000 in
theorem modelInverse_7_26_x : lawRunT 12 10 200 [.i, .i] [(1, 9, 7), (0, 56, 26)] ([]) modelInverseNms7 = true := by kernel_rfl
set_option maxRecDepth 1000000 in
set_option maxHeartbeats 100000000 in
theorem modelInverse_7_28_x : lawRunT 12 10 200 [.i, .i] [(1, 9, 7), (0, 56, 28)] ([]) modelInverseNms7 = true := by kernel_rfl
set_option maxRecDepth 1000000 in
set_option maxHeartbeats 100000000 in
theorem modelInverse_7_30_x : lawRunT 12 10 200 [.i, .i] [(1, 9, 7), (0, 56, 30)] ([]) modelInverseNms7 = true := by kernel_rfl
set_option maxRecDepth 1000000 in
set_option maxHeartbeats 100000000 in
theorem modelInverse_7_32_x : lawRunT 12 10 200 [.i, .i] [(1, 9, 7), (0, 56, 32)] ([]) modelInverseNms7 = true := by kernel_rfl
set_option maxRecDepth 1000000 in
set_option maxHeartbeats 100000000 in
theorem modelInverse_7_34_x : lawRunT 12 10 200 [.i, .i] [(1, 9, 7), (0, 56, 34)] ([]) modelInverseNms7 = true := by kernel_rfl
set_option maxRecDepth 1000000 in
set_option maxHeartbeats 100000000 in
theorem modelInverse_7_36_x : lawRunT 12 10 200 [.i, .i] [(1, 9, 7), (0, 56, 36)] ([]) modelInverseNms7 = true := by kernel_rfl
set_option maxRecDepth 1000000 in
set_option maxHeartbeats 100000000 in
theorem modelInverse_7_38_x : lawRunT 12 10 200 [.i, .i] [(1, 9, 7), (0, 56, 38)] ([]) modelInverseNms7 = true := by kernel_rfl
set_option maxRecDepth 1000000 in
set_option maxHeartbeats 100000000 in
theorem modelInverse_7_40_x : lawRunT 12 10 200 [.i, .i] [(1, 9, 7), (0, 56, 40)] ([]) modelInverseNms7 = true := by kernel_rfl
set_option maxRecDepth 1000000 in
set_option maxHeartbeats 100000000 in
theorem modelInverse_7_42_x : lawRunT 12 10 200 [.i, .i] [(1, 9, 7), (0, 56, 42)] ([]) modelInverseNms7 = true := by kernel_rfl
set_option maxRecDepth 1000000 in
set_option maxHeartbeats 100000000 in
theorem modelInverse_7_44_x : lawRunT 12 10 200 [.i, .i] [(1, 9, 7), (0, 56, 44)] ([]) modelInverseNms7 = true := by kernel_rfl
set_option maxRecDepth 1000000 in
set_option maxHeartbeats 100000000 in
theorem modelInverse_7_46_x : lawRunT 12 10 200 [.i, .i] [(1, 9, 7), (0, 56, 46)] ([]) modelInverseNms7 = true := by kernel_rfl
set_option maxRecDepth 1000000 in
set_option maxHeartbeats 100000000 in
theorem modelInverse_7_48_x : lawRunT 12 10 200 [.i, .i] [(1, 9, 7), (0, 56, 48)] ([]) modelInverseNms7 = true := by kernel_rfl
set_option maxRecDepth 1000000 in
set_option maxHeartbeats 100000000 in
theorem modelInverse_7_50_x : lawRunT 12 10 200 [.i, .i] [(1, 9, 7), (0, 56, 50)] ([]) modelInverseNms7 = true := by kernel_rfl
set_option maxRecDepth 1000000 in
set_option maxHeartbeats 100000000 in
theorem modelInverse_7_52_x : lawRunT 12 10 200 [.i, .i] [(1, 9, 7), (0, 56, 52)] ([]) modelInverseNms7 = true := by kernel_rfl
set_option maxRecDepth 1000000 in
set_option maxHeartbeats 100000000 in
theorem modelInverse_7_54_x : lawRunT 12 10 200 [.i, .i] [(1, 9, 7), (0, 56, 54)] ([]) modelInverseNms7 = true := by kernel_rfl
end Go.Proofs.Ytmmpgglbeaofkaa
