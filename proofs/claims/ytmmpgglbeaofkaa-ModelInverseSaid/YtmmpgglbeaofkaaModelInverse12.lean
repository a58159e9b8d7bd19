/-
  'ModelInverse': runs of it, part 12.
-/
import Derived.Test.YtmmpgglbeaofkaaModelInverset6
namespace Go.Proofs.Ytmmpgglbeaofkaa
open Go.RowKit Ex
set_option maxRecDepth 1000000 in
set_option maxHeartbeats 100000000 in
theorem modelInverse_6_0_x : lawRunT 12 10 200 [.i, .i] [(1, 9, 6), (0, 56, 0)] ([]) modelInverseNms6 = true := by kernel_rfl
set_option maxRecDepth 1000000 in
set_option maxHeartbeats 100000000 in
theorem modelInverse_6_2_x : lawRunT 12 10 200 [.i, .i] [(1, 9, 6), (0, 56, 2)] ([]) modelInverseNms6 = true := by kernel_rfl
set_option maxRecDepth 1000000 in
set_option maxHeartbeats 100000000 in
theorem modelInverse_6_4_x : lawRunT 12 10 200 [.i, .i] [(1, 9, 6), (0, 56, 4)] ([]) modelInverseNms6 = true := by kernel_rfl
set_option maxRecDepth 1000000 in
set_option maxHeartbeats 100000000 in
theorem modelInverse_6_6_x : lawRunT 12 10 200 [.i, .i] [(1, 9, 6), (0, 56, 6)] ([]) modelInverseNms6 = true := by kernel_rfl
set_option maxRecDepth 1000000 in
set_option maxHeartbeats 100000000 in
theorem modelInverse_6_8_x : lawRunT 12 10 200 [.i, .i] [(1, 9, 6), (0, 56, 8)] ([]) modelInverseNms6 = true := by kernel_rfl
set_option maxRecDepth 1000000 in
set_option maxHeartbeats 100000000 in
theorem modelInverse_6_10_x : lawRunT 12 10 200 [.i, .i] [(1, 9, 6), (0, 56, 10)] ([]) modelInverseNms6 = true := by kernel_rfl
set_option maxRecDepth 1000000 in
set_option maxHeartbeats 100000000 in
theorem modelInverse_6_12_x : lawRunT 12 10 200 [.i, .i] [(1, 9, 6), (0, 56, 12)] ([]) modelInverseNms6 = true := by kernel_rfl
set_option maxRecDepth 1000000 in
set_option maxHeartbeats 100000000 in
theorem modelInverse_6_14_x : lawRunT 12 10 200 [.i, .i] [(1, 9, 6), (0, 56, 14)] ([]) modelInverseNms6 = true := by kernel_rfl
set_option maxRecDepth 1000000 in
set_option maxHeartbeats 100000000 in
theorem modelInverse_6_16_x : lawRunT 12 10 200 [.i, .i] [(1, 9, 6), (0, 56, 16)] ([]) modelInverseNms6 = true := by kernel_rfl
set_option maxRecDepth 1000000 in
set_option maxHeartbeats 100000000 in
theorem modelInverse_6_18_x : lawRunT 12 10 200 [.i, .i] [(1, 9, 6), (0, 56, 18)] ([]) modelInverseNms6 = true := by kernel_rfl
set_option maxRecDepth 1000000 in
set_option maxHeartbeats 100000000 in
theorem modelInverse_6_20_x : lawRunT 12 10 200 [.i, .i] [(1, 9, 6), (0, 56, 20)] ([]) modelInverseNms6 = true := by kernel_rfl
set_option maxRecDepth 1000000 in
set_option maxHeartbeats 100000000 in
theorem modelInverse_6_22_x : lawRunT 12 10 200 [.i, .i] [(1, 9, 6), (0, 56, 22)] ([]) modelInverseNms6 = true := by kernel_rfl
set_option maxRecDepth 1000000 in
set_option maxHeartbeats 100000000 in
theorem modelInverse_6_24_x : lawRunT 12 10 200 [.i, .i] [(1, 9, 6), (0, 56, 24)] ([]) modelInverseNms6 = true := by kernel_rfl
set_option maxRecDepth 1000000 in
set_option maxHeartbeats 100000000 in
theorem modelInverse_6_26_x : lawRunT 12 10 200 [.i, .i] [(1, 9, 6), (0, 56, 26)] ([]) modelInverseNms6 = true := by kernel_rfl
set_option maxRecDepth 1000000 in
set_option maxHeartbeats 100000000 in
theorem modelInverse_6_28_x : lawRunT 12 10 200 [.i, .i] [(1, 9, 6), (0, 56, 28)] ([]) modelInverseNms6 = true := by kernel_rfl
set_option maxRecDepth 1000000 in
set_option maxHeartbeats 100000000 in
theorem modelInverse_6_30_x : lawRunT 12 10 200 [.i, .i] [(1, 9, 6), (0, 56, 30)] ([]) modelInverseNms6 = true := by kernel_rfl
set_option maxRecDepth 1000000 in
set_option maxHeartbeats 100000000 in
theorem modelInverse_6_32_x : lawRunT 12 10 200 [.i, .i] [(1, 9, 6), (0, 56, 32)] ([]) modelInverseNms6 = true := by kernel_rfl
set_option maxRecDepth 1000000 in
set_option maxHeartbeats 100000000 in
theorem modelInverse_6_34_x : lawRunT 12 10 200 [.i, .i] [(1, 9, 6), (0, 56, 34)] ([]) modelInverseNms6 = true := by kernel_rfl
set_option maxRecDepth 1000000 in
set_option maxHeartbeats 100000000 in
theorem modelInverse_6_36_x : lawRunT 12 10 200 [.i, .i] [(1, 9, 6), (0, 56, 36)] ([]) modelInverseNms6 = true := by kernel_rfl
set_option maxRecDepth 1000000 in
set_option maxHeartbeats 100000000 in
theorem modelInverse_6_38_x : lawRunT 12 10 200 [.i, .i] [(1, 9, 6), (0, 56, 38)] ([]) modelInverseNms6 = true := by kernel_rfl
set_option maxRecDepth 1000000 in
set_option maxHeartbeats 100000000 in
theorem modelInverse_6_40_x : lawRunT 12 10 200 [.i, .i] [(1, 9, 6), (0, 56, 40)] ([]) modelInverseNms6 = true := by kernel_rfl
set_option maxRecDepth 1000000 in
set_option maxHeartbeats 100000000 in
theorem modelInverse_6_42_x : lawRunT 12 10 200 [.i, .i] [(1, 9, 6), (0, 56, 42)] ([]) modelInverseNms6 = true := by kernel_rfl
set_option maxRecDepth 1000000 in
set_option maxHeartbeats 100000000 in
theorem modelInverse_6_44_x : lawRunT 12 10 200 [.i, .i] [(1, 9, 6), (0, 56, 44)] ([]) modelInverseNms6 = true := by kernel_rfl
set_option maxRecDepth 1000000 in
set_option maxHeartbeats 100000000 in
theorem modelInverse_6_46_x : lawRunT 12 10 200 [.i, .i] [(1, 9, 6), (0, 56, 46)] ([]) modelInverseNms6 = true := by kernel_rfl
set_option maxRecDepth 1000000 in
set_option maxHeartbeats 100000000 in
theorem modelInverse_6_48_x : lawRunT 12 10 200 [.i, .i] [(1, 9, 6), (0, 56, 48)] ([]) modelInverseNms6 = true := by kernel_rfl
set_option maxRecDepth 1000000 in
set_option maxHeartbeats 100000000 in
theorem modelInverse_6_50_x : lawRunT 12 10 200 [.i, .i] [(1, 9, 6), (0, 56, 50)] ([]) modelInverseNms6 = true := by kernel_rfl
set_option maxRecDepth 1000000 in
set_option maxHeartbeats 100000000 in
theorem modelInverse_6_52_x : lawRunT 12 10 200 [.i, .i] [(1, 9, 6), (0, 56, 52)] ([]) modelInverseNms6 = true := by kernel_rfl
set_option maxRecDepth 1000000 in
set_option maxHeartbeats 100000000 in
theorem modelInverse_6_54_x : lawRunT 12 10 200 [.i, .i] [(1, 9, 6), (0, 56, 54)] ([]) modelInverseNms6 = true := by kernel_rfl
end Go.Proofs.Ytmmpgglbeaofkaa
