/-
  'ModelLine': runs of it, part 0.
-/
import Derived.Test.YtmmpgglbeaofkaaBI5
namespace Go.Proofs.Ytmmpgglbeaofkaa
open Go.RowKit Ex
set_option maxRecDepth 1000000 in
set_option maxHeartbeats 100000000 in
theorem modelLine_ii_0_0 : lawRun 11 10 200 [.i, .i] [(0, 9, 0), (1, 9, 0)] = true := by kernel_rfl
set_option maxRecDepth 1000000 in
set_option maxHeartbeats 100000000 in
theorem modelLine_ii_0_6 : lawRun 11 10 200 [.i, .i] [(0, 9, 0), (1, 9, 6)] = true := by kernel_rfl
set_option maxRecDepth 1000000 in
set_option maxHeartbeats 100000000 in
theorem modelLine_ii_1_3 : lawRun 11 10 200 [.i, .i] [(0, 9, 1), (1, 9, 3)] = true := by kernel_rfl
set_option maxRecDepth 1000000 in
set_option maxHeartbeats 100000000 in
theorem modelLine_ii_2_0 : lawRun 11 10 200 [.i, .i] [(0, 9, 2), (1, 9, 0)] = true := by kernel_rfl
set_option maxRecDepth 1000000 in
set_option maxHeartbeats 100000000 in
theorem modelLine_ii_2_6 : lawRun 11 10 200 [.i, .i] [(0, 9, 2), (1, 9, 6)] = true := by kernel_rfl
set_option maxRecDepth 1000000 in
set_option maxHeartbeats 100000000 in
theorem modelLine_ii_3_3 : lawRun 11 10 200 [.i, .i] [(0, 9, 3), (1, 9, 3)] = true := by kernel_rfl
set_option maxRecDepth 1000000 in
set_option maxHeartbeats 100000000 in
theorem modelLine_ii_4_0 : lawRun 11 10 200 [.i, .i] [(0, 9, 4), (1, 9, 0)] = true := by kernel_rfl
set_option maxRecDepth 1000000 in
set_option maxHeartbeats 100000000 in
theorem modelLine_ii_4_6 : lawRun 11 10 200 [.i, .i] [(0, 9, 4), (1, 9, 6)] = true := by kernel_rfl
set_option maxRecDepth 1000000 in
set_option maxHeartbeats 100000000 in
theorem modelLine_ii_5_3 : lawRun 11 10 200 [.i, .i] [(0, 9, 5), (1, 9, 3)] = true := by kernel_rfl
set_option maxRecDepth 1000000 in
set_option maxHeartbeats 100000000 in
theorem modelLine_ii_6_0 : lawRun 11 10 200 [.i, .i] [(0, 9, 6), (1, 9, 0)] = true := by kernel_rfl
set_option maxRecDepth 1000000 in
set_option maxHeartbeats 100000000 in
theorem modelLine_ii_6_6 : lawRun 11 10 200 [.i, .i] [(0, 9, 6), (1, 9, 6)] = true := by kernel_rfl
set_option maxRecDepth 1000000 in
set_option maxHeartbeats 100000000 in
theorem modelLine_ii_7_3 : lawRun 11 10 200 [.i, .i] [(0, 9, 7), (1, 9, 3)] = true := by kernel_rfl
set_option maxRecDepth 1000000 in
set_option maxHeartbeats 100000000 in
theorem modelLine_ii_8_0 : lawRun 11 10 200 [.i, .i] [(0, 9, 8), (1, 9, 0)] = true := by kernel_rfl
set_option maxRecDepth 1000000 in
set_option maxHeartbeats 100000000 in
theorem modelLine_ii_8_6 : lawRun 11 10 200 [.i, .i] [(0, 9, 8), (1, 9, 6)] = true := by kernel_rfl
end Go.Proofs.Ytmmpgglbeaofkaa
