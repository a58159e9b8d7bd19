/-
  'ModelInverse': runs of it, part 10.
-/
import Derived.Test.YtmmpgglbeaofkaaModelInverset5
namespace Go.Proofs.Ytmmpgglbeaofkaa
open Go.RowKit Ex
set_option maxRecDepth 1000000 in
set_option maxHeartbeats 100000000 in
theorem modelInverse_5_0_x : lawRunT 12 10 200 [.i, .i] [(1, 9, 5), (0, 56, 0)] ([]) modelInverseNms5 = true := by kernel_rfl
set_option maxRecDepth 1000000 in
set_option maxHeartbeats 100000000 in
theorem modelInverse_5_2_x : lawRunT 12 10 200 [.i, .i] [(1, 9, 5), (0, 56, 2)] ([]) modelInverseNms5 = true := by kernel_rfl
set_option maxRecDepth 1000000 in
set_option maxHeartbeats 100000000 in
theorem modelInverse_5_4_x : lawRunT 12 10 200 [.i, .i] [(1, 9, 5), (0, 56, 4)] ([]) modelInverseNms5 = true := by kernel_rfl
set_option maxRecDepth 1000000 in
set_option maxHeartbeats 100000000 in
theorem modelInverse_5_6_x : lawRunT 12 10 200 [.i, .i] [(1, 9, 5), (0, 56, 6)] ([]) modelInverseNms5 = true := by kernel_rfl
set_option maxRecDepth 1000000 in
set_option maxHeartbeats 100000000 in
theorem modelInverse_5_8_x : lawRunT 12 10 200 [.i, .i] [(1, 9, 5), (0, 56, 8)] ([]) modelInverseNms5 = true := by kernel_rfl
set_option maxRecDepth 1000000 in
set_option maxHeartbeats 100000000 in
theorem modelInverse_5_10_x : lawRunT 12 10 200 [.i, .i] [(1, 9, 5), (0, 56, 10)] ([]) modelInverseNms5 = true := by kernel_rfl
set_option maxRecDepth 1000000 in
set_option maxHeartbeats 100000000 in
theorem modelInverse_5_12_x : lawRunT 12 10 200 [.i, .i] [(1, 9, 5), (0, 56, 12)] ([]) modelInverseNms5 = true := by kernel_rfl
set_option maxRecDepth 1000000 in
set_option maxHeartbeats 100000000 in
theorem modelInverse_5_14_x : lawRunT 12 10 200 [.i, .i] [(1, 9, 5), (0, 56, 14)] ([]) modelInverseNms5 = true := by kernel_rfl
set_option maxRecDepth 1000000 in
set_option maxHeartbeats 100000000 in
theorem modelInverse_5_16_x : lawRunT 12 10 200 [.i, .i] [(1, 9, 5), (0, 56, 16)] ([]) modelInverseNms5 = true := by kernel_rfl
set_option maxRecDepth 1000000 in
set_option maxHeartbeats 100000000 in
theorem modelInverse_5_18_x : lawRunT 12 10 200 [.i, .i] [(1, 9, 5), (0, 56, 18)] ([]) modelInverseNms5 = true := by kernel_rfl
set_option maxRecDepth 1000000 in
set_option maxHeartbeats 100000000 in
theorem modelInverse_5_20_x : lawRunT 12 10 200 [.i, .i] [(1, 9, 5), (0, 56, 20)] ([]) modelInverseNms5 = true := by kernel_rfl
set_option maxRecDepth 1000000 in
set_option maxHeartbeats 100000000 in
theorem modelInverse_5_22_x : lawRunT 12 10 200 [.i, .i] [(1, 9, 5), (0, 56, 22)] ([]) modelInverseNms5 = true := by kernel_rfl
set_option maxRecDepth 1000000 in
set_option maxHeartbeats 100000000 in
theorem modelInverse_5_24_x : lawRunT 12 10 200 [.i, .i] [(1, 9, 5), (0, 56, 24)] ([]) modelInverseNms5 = true := by kernel_rfl
set_option maxRecDepth 1000000 in
set_option maxHeartbeats 100000000 in
theorem modelInverse_5_26_x : lawRunT 12 10 200 [.i, .i] [(1, 9, 5), (0, 56, 26)] ([]) modelInverseNms5 = true := by kernel_rfl
set_option maxRecDepth 1000000 in
set_option maxHeartbeats 100000000 in
theorem modelInverse_5_28_x : lawRunT 12 10 200 [.i, .i] [(1, 9, 5), (0, 56, 28)] ([]) modelInverseNms5 = true := by kernel_rfl
set_option maxRecDepth 1000000 in
set_option maxHeartbeats 100000000 in
theorem modelInverse_5_30_x : lawRunT 12 10 200 [.i, .i] [(1, 9, 5), (0, 56, 30)] ([]) modelInverseNms5 = true := by kernel_rfl
set_option maxRecDepth 1000000 in
set_option maxHeartbeats 100000000 in
theorem modelInverse_5_32_x : lawRunT 12 10 200 [.i, .i] [(1, 9, 5), (0, 56, 32)] ([]) modelInverseNms5 = true := by kernel_rfl
set_option maxRecDepth 1000000 in
set_option maxHeartbeats 100000000 in
theorem modelInverse_5_34_x : lawRunT 12 10 200 [.i, .i] [(1, 9, 5), (0, 56, 34)] ([]) modelInverseNms5 = true := by kernel_rfl
set_option maxRecDepth 1000000 in
set_option maxHeartbeats 100000000 in
theorem modelInverse_5_36_x : lawRunT 12 10 200 [.i, .i] [(1, 9, 5), (0, 56, 36)] ([]) modelInverseNms5 = true := by kernel_rfl
set_option maxRecDepth 1000000 in
set_option maxHeartbeats 100000000 in
theorem modelInverse_5_38_x : lawRunT 12 10 200 [.i, .i] [(1, 9, 5), (0, 56, 38)] ([]) modelInverseNms5 = true := by kernel_rfl
set_option maxRecDepth 1000000 in
set_option maxHeartbeats 100000000 in
theorem modelInverse_5_40_x : lawRunT 12 10 200 [.i, .i] [(1, 9, 5), (0, 56, 40)] ([]) modelInverseNms5 = true := by kernel_rfl
set_option maxRecDepth 1000000 in
set_option maxHeartbeats 100000000 in
theorem modelInverse_5_42_x : lawRunT 12 10 200 [.i, .i] [(1, 9, 5), (0, 56, 42)] ([]) modelInverseNms5 = true := by kernel_rfl
set_option maxRecDepth 1000000 in
set_option maxHeartbeats 100000000 in
theorem modelInverse_5_44_x : lawRunT 12 10 200 [.i, .i] [(1, 9, 5), (0, 56, 44)] ([]) modelInverseNms5 = true := by kernel_rfl
set_option maxRecDepth 1000000 in
set_option maxHeartbeats 100000000 in
theorem modelInverse_5_46_x : lawRunT 12 10 200 [.i, .i] [(1, 9, 5), (0, 56, 46)] ([]) modelInverseNms5 = true := by kernel_rfl
set_option maxRecDepth 1000000 in
set_option maxHeartbeats 100000000 in
theorem modelInverse_5_48_x : lawRunT 12 10 200 [.i, .i] [(1, 9, 5), (0, 56, 48)] ([]) modelInverseNms5 = true := by kernel_rfl
set_option maxRecDepth 1000000 in
set_option maxHeartbeats 100000000 in
theorem modelInverse_5_50_x : lawRunT 12 10 200 [.i, .i] [(1, 9, 5), (0, 56, 50)] ([]) modelInverseNms5 = true := by kernel_rfl
set_option maxRecDepth 1000000 in
set_option maxHeartbeats 100000000 in
theorem modelInverse_5_52_x : lawRunT 12 10 200 [.i, .i] [(1, 9, 5), (0, 56, 52)] ([]) modelInverseNms5 = true := by kernel_rfl
set_option maxRecDepth 1000000 in
set_option maxHeartbeats 100000000 in
theorem modelInverse_5_54_x : lawRunT 12 10 200 [.i, .i] [(1, 9, 5), (0, 56, 54)] ([]) modelInverseNms5 = true := by kernel_rfl
end Go.Proofs.Ytmmpgglbeaofkaa
