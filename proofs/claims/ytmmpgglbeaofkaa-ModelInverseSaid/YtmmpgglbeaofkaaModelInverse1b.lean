/-
  'ModelInverse': runs of it, part 1b.
-/
import Derived.Test.YtmmpgglbeaofkaaModelInverset0
namespace Go.Proofs.Ytmmpgglbeaofkaa
open Go.RowKit Ex
set_option maxRecDepth 1000000 in
set_option maxHeartbeats 100000000 in
theorem modelInverse_0_29_x : lawRunT 12 10 200 [.i, .i] [(1, 9, 0), (0, 56, 29)] ([]) modelInverseNms0 = true := by kernel_rfl
set_option maxRecDepth 1000000 in
set_option maxHeartbeats 100000000 in
theorem modelInverse_0_31_x : lawRunT 12 10 200 [.i, .i] [(1, 9, 0), (0, 56, 31)] ([]) modelInverseNms0 = true := by kernel_rfl
set_option maxRecDepth 1000000 in
set_option maxHeartbeats 100000000 in
theorem modelInverse_0_33_x : lawRunT 12 10 200 [.i, .i] [(1, 9, 0), (0, 56, 33)] ([]) modelInverseNms0 = true := by kernel_rfl
set_option maxRecDepth 1000000 in
set_option maxHeartbeats 100000000 in
theorem modelInverse_0_35_x : lawRunT 12 10 200 [.i, .i] [(1, 9, 0), (0, 56, 35)] ([]) modelInverseNms0 = true := by kernel_rfl
set_option maxRecDepth 1000000 in
set_option maxHeartbeats 100000000 in
theorem modelInverse_0_37_x : lawRunT 12 10 200 [.i, .i] [(1, 9, 0), (0, 56, 37)] ([]) modelInverseNms0 = true := by kernel_rfl
set_option maxRecDepth 1000000 in
set_option maxHeartbeats 100000000 in
theorem modelInverse_0_39_x : lawRunT 12 10 200 [.i, .i] [(1, 9, 0), (0, 56, 39)] ([]) modelInverseNms0 = true := by kernel_rfl
set_option maxRecDepth 1000000 in
set_option maxHeartbeats 100000000 in
theorem modelInverse_0_41_x : lawRunT 12 10 200 [.i, .i] [(1, 9, 0), (0, 56, 41)] ([]) modelInverseNms0 = true := by kernel_rfl
end Go.Proofs.Ytmmpgglbeaofkaa
