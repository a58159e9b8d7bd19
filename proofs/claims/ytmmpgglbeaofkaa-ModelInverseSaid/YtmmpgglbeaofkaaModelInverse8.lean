/-
  'ModelInverse': runs of it, part 8.
-/
import Derived.Test.YtmmpgglbeaofkaaModelInverset4
namespace Go.Proofs.Ytmmpgglbeaofkaa
open Go.RowKit Ex
set_option maxRecDepth 1000000 in
set_option maxHeartbeats 100000000 in
theorem modelInverse_4_0_x : lawRunT 12 10 200 [.i, .i] [(1, 9, 4), (0, 56, 0)] ([]) modelInverseNms4 = true := by kernel_rfl
set_option maxRecDepth 1000000 in
set_option maxHeartbeats 100000000 in
theorem modelInverse_4_2_x : lawRunT 12 10 200 [.i, .i] [(1, 9, 4), (0, 56, 2)] ([]) modelInverseNms4 = true := by kernel_rfl
set_option maxRecDepth 1000000 in
set_option maxHeartbeats 100000000 in
theorem modelInverse_4_4_x : lawRunT 12 10 200 [.i, .i] [(1, 9, 4), (0, 56, 4)] ([]) modelInverseNms4 = true := by kernel_rfl
set_option maxRecDepth 1000000 in
set_option maxHeartbeats 100000000 in
theorem modelInverse_4_6_x : lawRunT 12 10 200 [.i, .i] [(1, 9, 4), (0, 56, 6)] ([]) modelInverseNms4 = true := by kernel_rfl
set_option maxRecDepth 1000000 in
set_option maxHeartbeats 100000000 in
theorem modelInverse_4_8_x : lawRunT 12 10 200 [.i, .i] [(1, 9, 4), (0, 56, 8)] ([]) modelInverseNms4 = true := by kernel_rfl
set_option maxRecDepth 1000000 in
set_option maxHeartbeats 100000000 in
theorem modelInverse_4_10_x : lawRunT 12 10 200 [.i, .i] [(1, 9, 4), (0, 56, 10)] ([]) modelInverseNms4 = true := by kernel_rfl
set_option maxRecDepth 1000000 in
set_option maxHeartbeats 100000000 in
theorem modelInverse_4_12_x : lawRunT 12 10 200 [.i, .i] [(1, 9, 4), (0, 56, 12)] ([]) modelInverseNms4 = true := by kernel_rfl
set_option maxRecDepth 1000000 in
set_option maxHeartbeats 100000000 in
theorem modelInverse_4_14_x : lawRunT 12 10 200 [.i, .i] [(1, 9, 4), (0, 56, 14)] ([]) modelInverseNms4 = true := by kernel_rfl
set_option maxRecDepth 1000000 in
set_option maxHeartbeats 100000000 in
theorem modelInverse_4_16_x : lawRunT 12 10 200 [.i, .i] [(1, 9, 4), (0, 56, 16)] ([]) modelInverseNms4 = true := by kernel_rfl
set_option maxRecDepth 1000000 in
set_option maxHeartbeats 100000000 in
theorem modelInverse_4_18_x : lawRunT 12 10 200 [.i, .i] [(1, 9, 4), (0, 56, 18)] ([]) modelInverseNms4 = true := by kernel_rfl
set_option maxRecDepth 1000000 in
set_option maxHeartbeats 100000000 in
theorem modelInverse_4_20_x : lawRunT 12 10 200 [.i, .i] [(1, 9, 4), (0, 56, 20)] ([]) modelInverseNms4 = true := by kernel_rfl
set_option maxRecDepth 1000000 in
set_option maxHeartbeats 100000000 in
theorem modelInverse_4_22_x : lawRunT 12 10 200 [.i, .i] [(1, 9, 4), (0, 56, 22)] ([]) modelInverseNms4 = true := by kernel_rfl
set_option maxRecDepth 1000000 in
set_option maxHeartbeats 100000000 in
theorem modelInverse_4_24_x : lawRunT 12 10 200 [.i, .i] [(1, 9, 4), (0, 56, 24)] ([]) modelInverseNms4 = true := by kernel_rfl
set_option maxRecDepth 1000000 in
set_option maxHeartbeats 100000000 in
theorem modelInverse_4_26_x : lawRunT 12 10 200 [.i, .i] [(1, 9, 4), (0, 56, 26)] ([]) modelInverseNms4 = true := by kernel_rfl
set_option maxRecDepth 1000000 in
set_option maxHeartbeats 100000000 in
theorem modelInverse_4_28_x : lawRunT 12 10 200 [.i, .i] [(1, 9, 4), (0, 56, 28)] ([]) modelInverseNms4 = true := by kernel_rfl
set_option maxRecDepth 1000000 in
set_option maxHeartbeats 100000000 in
theorem modelInverse_4_30_x : lawRunT 12 10 200 [.i, .i] [(1, 9, 4), (0, 56, 30)] ([]) modelInverseNms4 = true := by kernel_rfl
set_option maxRecDepth 1000000 in
set_option maxHeartbeats 100000000 in
theorem modelInverse_4_32_x : lawRunT 12 10 200 [.i, .i] [(1, 9, 4), (0, 56, 32)] ([]) modelInverseNms4 = true := by kernel_rfl
set_option maxRecDepth 1000000 in
set_option maxHeartbeats 100000000 in
theorem modelInverse_4_34_x : lawRunT 12 10 200 [.i, .i] [(1, 9, 4), (0, 56, 34)] ([]) modelInverseNms4 = true := by kernel_rfl
set_option maxRecDepth 1000000 in
set_option maxHeartbeats 100000000 in
theorem modelInverse_4_36_x : lawRunT 12 10 200 [.i, .i] [(1, 9, 4), (0, 56, 36)] ([]) modelInverseNms4 = true := by kernel_rfl
set_option maxRecDepth 1000000 in
set_option maxHeartbeats 100000000 in
theorem modelInverse_4_38_x : lawRunT 12 10 200 [.i, .i] [(1, 9, 4), (0, 56, 38)] ([]) modelInverseNms4 = true := by kernel_rfl
set_option maxRecDepth 1000000 in
set_option maxHeartbeats 100000000 in
theorem modelInverse_4_40_x : lawRunT 12 10 200 [.i, .i] [(1, 9, 4), (0, 56, 40)] ([]) modelInverseNms4 = true := by kernel_rfl
set_option maxRecDepth 1000000 in
set_option maxHeartbeats 100000000 in
theorem modelInverse_4_42_x : lawRunT 12 10 200 [.i, .i] [(1, 9, 4), (0, 56, 42)] ([]) modelInverseNms4 = true := by kernel_rfl
set_option maxRecDepth 1000000 in
set_option maxHeartbeats 100000000 in
theorem modelInverse_4_44_x : lawRunT 12 10 200 [.i, .i] [(1, 9, 4), (0, 56, 44)] ([]) modelInverseNms4 = true := by kernel_rfl
set_option maxRecDepth 1000000 in
set_option maxHeartbeats 100000000 in
theorem modelInverse_4_46_x : lawRunT 12 10 200 [.i, .i] [(1, 9, 4), (0, 56, 46)] ([]) modelInverseNms4 = true := by kernel_rfl
set_option maxRecDepth 1000000 in
set_option maxHeartbeats 100000000 in
theorem modelInverse_4_48_x : lawRunT 12 10 200 [.i, .i] [(1, 9, 4), (0, 56, 48)] ([]) modelInverseNms4 = true := by kernel_rfl
set_option maxRecDepth 1000000 in
set_option maxHeartbeats 100000000 in
theorem modelInverse_4_50_x : lawRunT 12 10 200 [.i, .i] [(1, 9, 4), (0, 56, 50)] ([]) modelInverseNms4 = true := by kernel_rfl
set_option maxRecDepth 1000000 in
set_option maxHeartbeats 100000000 in
theorem modelInverse_4_52_x : lawRunT 12 10 200 [.i, .i] [(1, 9, 4), (0, 56, 52)] ([]) modelInverseNms4 = true := by kernel_rfl
set_option maxRecDepth 1000000 in
set_option maxHeartbeats 100000000 in
theorem modelInverse_4_54_x : lawRunT 12 10 200 [.i, .i] [(1, 9, 4), (0, 56, 54)] ([]) modelInverseNms4 = true := by kernel_rfl
end Go.Proofs.Ytmmpgglbeaofkaa
