/-
  'ModelInverse': runs of it, part 4.
-/
import Derived.Test.YtmmpgglbeaofkaaModelInverset2
namespace Go.Proofs.Ytmmpgglbeaofkaa
open Go.RowKit Ex
set_option maxRecDepth 1000000 in
set_option maxHeartbeats 100000000 in
theorem modelInverse_2_0_x : lawRunT 12 10 200 [.i, .i] [(1, 9, 2), (0, 56, 0)] ([]) modelInverseNms2 = true := by kernel_rfl
set_option maxRecDepth 1000000 in
set_option maxHeartbeats 100000000 in
theorem modelInverse_2_2_x : lawRunT 12 10 200 [.i, .i] [(1, 9, 2), (0, 56, 2)] ([]) modelInverseNms2 = true := by kernel_rfl
set_option maxRecDepth 1000000 in
set_option maxHeartbeats 100000000 in
theorem modelInverse_2_4_x : lawRunT 12 10 200 [.i, .i] [(1, 9, 2), (0, 56, 4)] ([]) modelInverseNms2 = true := by kernel_rfl
set_option maxRecDepth 1000000 in
set_option maxHeartbeats 100000000 in
theorem modelInverse_2_6_x : lawRunT 12 10 200 [.i, .i] [(1, 9, 2), (0, 56, 6)] ([]) modelInverseNms2 = true := by kernel_rfl
set_option maxRecDepth 1000000 in
set_option maxHeartbeats 100000000 in
theorem modelInverse_2_8_x : lawRunT 12 10 200 [.i, .i] [(1, 9, 2), (0, 56, 8)] ([]) modelInverseNms2 = true := by kernel_rfl
set_option maxRecDepth 1000000 in
set_option maxHeartbeats 100000000 in
theorem modelInverse_2_10_x : lawRunT 12 10 200 [.i, .i] [(1, 9, 2), (0, 56, 10)] ([]) modelInverseNms2 = true := by kernel_rfl
set_option maxRecDepth 1000000 in
set_option maxHeartbeats 100000000 in
theorem modelInverse_2_12_x : lawRunT 12 10 200 [.i, .i] [(1, 9, 2), (0, 56, 12)] ([]) modelInverseNms2 = true := by kernel_rfl
set_option maxRecDepth 1000000 in
set_option maxHeartbeats 100000000 in
theorem modelInverse_2_14_x : lawRunT 12 10 200 [.i, .i] [(1, 9, 2), (0, 56, 14)] ([]) modelInverseNms2 = true := by kernel_rfl
set_option maxRecDepth 1000000 in
set_option maxHeartbeats 100000000 in
theorem modelInverse_2_16_x : lawRunT 12 10 200 [.i, .i] [(1, 9, 2), (0, 56, 16)] ([]) modelInverseNms2 = true := by kernel_rfl
set_option maxRecDepth 1000000 in
set_option maxHeartbeats 100000000 in
theorem modelInverse_2_18_x : lawRunT 12 10 200 [.i, .i] [(1, 9, 2), (0, 56, 18)] ([]) modelInverseNms2 = true := by kernel_rfl
set_option maxRecDepth 1000000 in
set_option maxHeartbeats 100000000 in
theorem modelInverse_2_20_x : lawRunT 12 10 200 [.i, .i] [(1, 9, 2), (0, 56, 20)] ([]) modelInverseNms2 = true := by kernel_rfl
set_option maxRecDepth 1000000 in
set_option maxHeartbeats 100000000 in
theorem modelInverse_2_22_x : lawRunT 12 10 200 [.i, .i] [(1, 9, 2), (0, 56, 22)] ([]) modelInverseNms2 = true := by kernel_rfl
set_option maxRecDepth 1000000 in
set_option maxHeartbeats 100000000 in
theorem modelInverse_2_24_x : lawRunT 12 10 200 [.i, .i] [(1, 9, 2), (0, 56, 24)] ([]) modelInverseNms2 = true := by kernel_rfl
set_option maxRecDepth 1000000 in
set_option maxHeartbeats 100000000 in
theorem modelInverse_2_26_x : lawRunT 12 10 200 [.i, .i] [(1, 9, 2), (0, 56, 26)] ([]) modelInverseNms2 = true := by kernel_rfl
set_option maxRecDepth 1000000 in
set_option maxHeartbeats 100000000 in
theorem modelInverse_2_28_x : lawRunT 12 10 200 [.i, .i] [(1, 9, 2), (0, 56, 28)] ([]) modelInverseNms2 = true := by kernel_rfl
set_option maxRecDepth 1000000 in
set_option maxHeartbeats 100000000 in
theorem modelInverse_2_30_x : lawRunT 12 10 200 [.i, .i] [(1, 9, 2), (0, 56, 30)] ([]) modelInverseNms2 = true := by kernel_rfl
set_option maxRecDepth 1000000 in
set_option maxHeartbeats 100000000 in
theorem modelInverse_2_32_x : lawRunT 12 10 200 [.i, .i] [(1, 9, 2), (0, 56, 32)] ([]) modelInverseNms2 = true := by kernel_rfl
set_option maxRecDepth 1000000 in
set_option maxHeartbeats 100000000 in
theorem modelInverse_2_34_x : lawRunT 12 10 200 [.i, .i] [(1, 9, 2), (0, 56, 34)] ([]) modelInverseNms2 = true := by kernel_rfl
set_option maxRecDepth 1000000 in
set_option maxHeartbeats 100000000 in
theorem modelInverse_2_36_x : lawRunT 12 10 200 [.i, .i] [(1, 9, 2), (0, 56, 36)] ([]) modelInverseNms2 = true := by kernel_rfl
set_option maxRecDepth 1000000 in
set_option maxHeartbeats 100000000 in
theorem modelInverse_2_38_x : lawRunT 12 10 200 [.i, .i] [(1, 9, 2), (0, 56, 38)] ([]) modelInverseNms2 = true := by kernel_rfl
set_option maxRecDepth 1000000 in
set_option maxHeartbeats 100000000 in
theorem modelInverse_2_40_x : lawRunT 12 10 200 [.i, .i] [(1, 9, 2), (0, 56, 40)] ([]) modelInverseNms2 = true := by kernel_rfl
set_option maxRecDepth 1000000 in
set_option maxHeartbeats 100000000 in
theorem modelInverse_2_42_x : lawRunT 12 10 200 [.i, .i] [(1, 9, 2), (0, 56, 42)] ([]) modelInverseNms2 = true := by kernel_rfl
set_option maxRecDepth 1000000 in
set_option maxHeartbeats 100000000 in
theorem modelInverse_2_44_x : lawRunT 12 10 200 [.i, .i] [(1, 9, 2), (0, 56, 44)] ([]) modelInverseNms2 = true := by kernel_rfl
set_option maxRecDepth 1000000 in
set_option maxHeartbeats 100000000 in
theorem modelInverse_2_46_x : lawRunT 12 10 200 [.i, .i] [(1, 9, 2), (0, 56, 46)] ([]) modelInverseNms2 = true := by kernel_rfl
set_option maxRecDepth 1000000 in
set_option maxHeartbeats 100000000 in
theorem modelInverse_2_48_x : lawRunT 12 10 200 [.i, .i] [(1, 9, 2), (0, 56, 48)] ([]) modelInverseNms2 = true := by kernel_rfl
set_option maxRecDepth 1000000 in
set_option maxHeartbeats 100000000 in
theorem modelInverse_2_50_x : lawRunT 12 10 200 [.i, .i] [(1, 9, 2), (0, 56, 50)] ([]) modelInverseNms2 = true := by kernel_rfl
set_option maxRecDepth 1000000 in
set_option maxHeartbeats 100000000 in
theorem modelInverse_2_52_x : lawRunT 12 10 200 [.i, .i] [(1, 9, 2), (0, 56, 52)] ([]) modelInverseNms2 = true := by kernel_rfl
set_option maxRecDepth 1000000 in
set_option maxHeartbeats 100000000 in
theorem modelInverse_2_54_x : lawRunT 12 10 200 [.i, .i] [(1, 9, 2), (0, 56, 54)] ([]) modelInverseNms2 = true := by kernel_rfl
end Go.Proofs.Ytmmpgglbeaofkaa
