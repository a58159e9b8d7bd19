/-
  'ModelLine': runs of it, part 3.
-/
import Derived.Test.YtmmpgglbeaofkaaBI5
namespace Go.Proofs.Ytmmpgglbeaofkaa
open Go.RowKit Ex
set_option maxRecDepth 1000000 in
set_option maxHeartbeats 100000000 in
theorem modelLine_ii_0_3 : lawRun 11 10 200 [.i, .i] [(0, 9, 0), (1, 9, 3)] = true := by kernel_rfl
set_option maxRecDepth 1000000 in
set_option maxHeartbeats 100000000 in
theorem modelLine_ii_1_0 : lawRun 11 10 200 [.i, .i] [(0, 9, 1), (1, 9, 0)] = true := by kernel_rfl
set_option maxRecDepth 1000000 in
set_option maxHeartbeats 100000000 in
theorem modelLine_ii_1_6 : lawRun 11 10 200 [.i, .i] [(0, 9, 1), (1, 9, 6)] = true := by kernel_rfl
set_option maxRecDepth 1000000 in
set_option maxHeartbeats 100000000 in
theorem modelLine_ii_2_3 : lawRun 11 10 200 [.i, .i] [(0, 9, 2), (1, 9, 3)] = true := by kernel_rfl
set_option maxRecDepth 1000000 in
set_option maxHeartbeats 100000000 in
theorem modelLine_ii_3_0 : lawRun 11 10 200 [.i, .i] [(0, 9, 3), (1, 9, 0)] = true := by kernel_rfl
set_option maxRecDepth 1000000 in
set_option maxHeartbeats 100000000 in
theorem modelLine_ii_3_6 : lawRun 11 10 200 [.i, .i] [(0, 9, 3), (1, 9, 6)] = true := by kernel_rfl
set_option maxRecDepth 1000000 in
set_option maxHeartbeats 100000000 in
theorem modelLine_ii_4_3 : lawRun 11 10 200 [.i, .i] [(0, 9, 4), (1, 9, 3)] = true := by kernel_rfl
set_option maxRecDepth 1000000 in
set_option maxHeartbeats 100000000 in
theorem modelLine_ii_5_0 : lawRun 11 10 200 [.i, .i] [(0, 9, 5), (1, 9, 0)] = true := by kernel_rfl
set_option maxRecDepth 1000000 in
set_option maxHeartbeats 100000000 in
theorem modelLine_ii_5_6 : lawRun 11 10 200 [.i, .i] [(0, 9, 5), (1, 9, 6)] = true := by kernel_rfl
set_option maxRecDepth 1000000 in
set_option maxHeartbeats 100000000 in
theorem modelLine_ii_6_3 : lawRun 11 10 200 [.i, .i] [(0, 9, 6), (1, 9, 3)] = true := by kernel_rfl
set_option maxRecDepth 1000000 in
set_option maxHeartbeats 100000000 in
theorem modelLine_ii_7_0 : lawRun 11 10 200 [.i, .i] [(0, 9, 7), (1, 9, 0)] = true := by kernel_rfl
set_option maxRecDepth 1000000 in
set_option maxHeartbeats 100000000 in
theorem modelLine_ii_7_6 : lawRun 11 10 200 [.i, .i] [(0, 9, 7), (1, 9, 6)] = true := by kernel_rfl
set_option maxRecDepth 1000000 in
set_option maxHeartbeats 100000000 in
theorem modelLine_ii_8_3 : lawRun 11 10 200 [.i, .i] [(0, 9, 8), (1, 9, 3)] = true := by kernel_rfl
end Go.Proofs.Ytmmpgglbeaofkaa
