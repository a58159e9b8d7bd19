/-
  'ModelInverse': runs of it, part 0.
-/
import Derived.Test.YtmmpgglbeaofkaaModelInverset0
namespace Go.Proofs.Ytmmpgglbeaofkaa
open Go.RowKit Ex
set_option maxRecDepth 1000000 in
set_option maxHeartbeats 100000000 in
theorem modelInverse_0_0_x : lawRunT 12 10 200 [.i, .i] [(1, 9, 0), (0, 56, 0)] ([]) modelInverseNms0 = true := by kernel_rfl
set_option maxRecDepth 1000000 in
set_option maxHeartbeats 100000000 in
theorem modelInverse_0_2_x : lawRunT 12 10 200 [.i, .i] [(1, 9, 0), (0, 56, 2)] ([]) modelInverseNms0 = true := by kernel_rfl
set_option maxRecDepth 1000000 in
set_option maxHeartbeats 100000000 in
theorem modelInverse_0_4_x : lawRunT 12 10 200 [.i, .i] [(1, 9, 0), (0, 56, 4)] ([]) modelInverseNms0 = true := by kernel_rfl
set_option maxRecDepth 1000000 in
set_option maxHeartbeats 100000000 in
theorem modelInverse_0_6_x : lawRunT 12 10 200 [.i, .i] [(1, 9, 0), (0, 56, 6)] ([]) modelInverseNms0 = true := by kernel_rfl
set_option maxRecDepth 1000000 in
set_option maxHeartbeats 100000000 in
theorem modelInverse_0_8_x : lawRunT 12 10 200 [.i, .i] [(1, 9, 0), (0, 56, 8)] ([]) modelInverseNms0 = true := by kernel_rfl
set_option maxRecDepth 1000000 in
set_option maxHeartbeats 100000000 in
theorem modelInverse_0_10_x : lawRunT 12 10 200 [.i, .i] [(1, 9, 0), (0, 56, 10)] ([]) modelInverseNms0 = true := by kernel_rfl
set_option maxRecDepth 1000000 in
set_option maxHeartbeats 100000000 in
theorem modelInverse_0_12_x : lawRunT 12 10 200 [.i, .i] [(1, 9, 0), (0, 56, 12)] ([]) modelInverseNms0 = true := by kernel_rfl
set_option maxRecDepth 1000000 in
set_option maxHeartbeats 100000000 in
theorem modelInverse_0_14_x : lawRunT 12 10 200 [.i, .i] [(1, 9, 0), (0, 56, 14)] ([]) modelInverseNms0 = true := by kernel_rfl
set_option maxRecDepth 1000000 in
set_option maxHeartbeats 100000000 in
theorem modelInverse_0_16_x : lawRunT 12 10 200 [.i, .i] [(1, 9, 0), (0, 56, 16)] ([]) modelInverseNms0 = true := by kernel_rfl
set_option maxRecDepth 1000000 in
set_option maxHeartbeats 100000000 in
theorem modelInverse_0_18_x : lawRunT 12 10 200 [.i, .i] [(1, 9, 0), (0, 56, 18)] ([]) modelInverseNms0 = true := by kernel_rfl
set_option maxRecDepth 1000000 in
set_option maxHeartbeats 100000000 in
theorem modelInverse_0_20_x : lawRunT 12 10 200 [.i, .i] [(1, 9, 0), (0, 56, 20)] ([]) modelInverseNms0 = true := by kernel_rfl
set_option maxRecDepth 1000000 in
set_option maxHeartbeats 100000000 in
theorem modelInverse_0_22_x : lawRunT 12 10 200 [.i, .i] [(1, 9, 0), (0, 56, 22)] ([]) modelInverseNms0 = true := by kernel_rfl
set_option maxRecDepth 1000000 in
set_option maxHeartbeats 100000000 in
theorem modelInverse_0_24_x : lawRunT 12 10 200 [.i, .i] [(1, 9, 0), (0, 56, 24)] ([]) modelInverseNms0 = true := by kernel_rfl
set_option maxRecDepth 1000000 in
set_option maxHeartbeats 100000000 in
theorem modelInverse_0_26_x : lawRunT 12 10 200 [.i, .i] [(1, 9, 0), (0, 56, 26)] ([]) modelInverseNms0 = true := by kernel_rfl
set_option maxRecDepth 1000000 in
set_option maxHeartbeats 100000000 in
theorem modelInverse_0_28_x : lawRunT 12 10 200 [.i, .i] [(1, 9, 0), (0, 56, 28)] ([]) modelInverseNms0 = true := by kernel_rfl
set_option maxRecDepth 1000000 in
set_option maxHeartbeats 100000000 in
theorem modelInverse_0_30_x : lawRunT 12 10 200 [.i, .i] [(1, 9, 0), (0, 56, 30)] ([]) modelInverseNms0 = true := by kernel_rfl
set_option maxRecDepth 1000000 in
set_option maxHeartbeats 100000000 in
theorem modelInverse_0_32_x : lawRunT 12 10 200 [.i, .i] [(1, 9, 0), (0, 56, 32)] ([]) modelInverseNms0 = true := by kernel_rfl
set_option maxRecDepth 1000000 in
set_option maxHeartbeats 100000000 in
theorem modelInverse_0_34_x : lawRunT 12 10 200 [.i, .i] [(1, 9, 0), (0, 56, 34)] ([]) modelInverseNms0 = true := by kernel_rfl
set_option maxRecDepth 1000000 in
set_option maxHeartbeats 100000000 in
theorem modelInverse_0_36_x : lawRunT 12 10 200 [.i, .i] [(1, 9, 0), (0, 56, 36)] ([]) modelInverseNms0 = true := by kernel_rfl
set_option maxRecDepth 1000000 in
set_option maxHeartbeats 100000000 in
theorem modelInverse_0_38_x : lawRunT 12 10 200 [.i, .i] [(1, 9, 0), (0, 56, 38)] ([]) modelInverseNms0 = true := by kernel_rfl
set_option maxRecDepth 1000000 in
set_option maxHeartbeats 100000000 in
theorem modelInverse_0_40_x : lawRunT 12 10 200 [.i, .i] [(1, 9, 0), (0, 56, 40)] ([]) modelInverseNms0 = true := by kernel_rfl
set_option maxRecDepth 1000000 in
set_option maxHeartbeats 100000000 in
theorem modelInverse_0_42_x : lawRunT 12 10 200 [.i, .i] [(1, 9, 0), (0, 56, 42)] ([]) modelInverseNms0 = true := by kernel_rfl
set_option maxRecDepth 1000000 in
set_option maxHeartbeats 100000000 in
theorem modelInverse_0_44_x : lawRunT 12 10 200 [.i, .i] [(1, 9, 0), (0, 56, 44)] ([]) modelInverseNms0 = true := by kernel_rfl
set_option maxRecDepth 1000000 in
set_option maxHeartbeats 100000000 in
theorem modelInverse_0_46_x : lawRunT 12 10 200 [.i, .i] [(1, 9, 0), (0, 56, 46)] ([]) modelInverseNms0 = true := by kernel_rfl
set_option maxRecDepth 1000000 in
set_option maxHeartbeats 100000000 in
theorem modelInverse_0_48_x : lawRunT 12 10 200 [.i, .i] [(1, 9, 0), (0, 56, 48)] ([]) modelInverseNms0 = true := by kernel_rfl
set_option maxRecDepth 1000000 in
set_option maxHeartbeats 100000000 in
theorem modelInverse_0_50_x : lawRunT 12 10 200 [.i, .i] [(1, 9, 0), (0, 56, 50)] ([]) modelInverseNms0 = true := by kernel_rfl
set_option maxRecDepth 1000000 in
set_option maxHeartbeats 100000000 in
theorem modelInverse_0_52_x : lawRunT 12 10 200 [.i, .i] [(1, 9, 0), (0, 56, 52)] ([]) modelInverseNms0 = true := by kernel_rfl
set_option maxRecDepth 1000000 in
set_option maxHeartbeats 100000000 in
theorem modelInverse_0_54_x : lawRunT 12 10 200 [.i, .i] [(1, 9, 0), (0, 56, 54)] ([]) modelInverseNms0 = true := by kernel_rfl
end Go.Proofs.Ytmmpgglbeaofkaa
