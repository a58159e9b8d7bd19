/-
  'ModelLine': runs of it, part 4.
-/
import Derived.Test.YtmmpgglbeaofkaaBI5
namespace Go.Proofs.Ytmmpgglbeaofkaa
open Go.RowKit Ex
set_option maxRecDepth 1000000 in
set_option maxHeartbeats 100000000 in
theorem modelLine_ii_0_4 : lawRun 11 10 200 [.i, .i] [(0, 9, 0), (1, 9, 4)] = true := by kernel_rfl
set_option maxRecDepth 1000000 in
set_option maxHeartbeats 100000000 in
theorem modelLine_ii_1_1 : lawRun 11 10 200 [.i, .i] [(0, 9, 1), (1, 9, 1)] = true := by kernel_rfl
set_option maxRecDepth 1000000 in
set_option maxHeartbeats 100000000 in
theorem modelLine_ii_1_7 : lawRun 11 10 200 [.i, .i] [(0, 9, 1), (1, 9, 7)] = true := by kernel_rfl
set_option maxRecDepth 1000000 in
set_option maxHeartbeats 100000000 in
theorem modelLine_ii_2_4 : lawRun 11 10 200 [.i, .i] [(0, 9, 2), (1, 9, 4)] = true := by kernel_rfl
set_option maxRecDepth 1000000 in
set_option maxHeartbeats 100000000 in
theorem modelLine_ii_3_1 : lawRun 11 10 200 [.i, .i] [(0, 9, 3), (1, 9, 1)] = true := by kernel_rfl
set_option maxRecDepth 1000000 in
set_option maxHeartbeats 100000000 in
theorem modelLine_ii_3_7 : lawRun 11 10 200 [.i, .i] [(0, 9, 3), (1, 9, 7)] = true := by kernel_rfl
set_option maxRecDepth 1000000 in
set_option maxHeartbeats 100000000 in
theorem modelLine_ii_4_4 : lawRun 11 10 200 [.i, .i] [(0, 9, 4), (1, 9, 4)] = true := by kernel_rfl
set_option maxRecDepth 1000000 in
set_option maxHeartbeats 100000000 in
theorem modelLine_ii_5_1 : lawRun 11 10 200 [.i, .i] [(0, 9, 5), (1, 9, 1)] = true := by kernel_rfl
set_option maxRecDepth 1000000 in
set_option maxHeartbeats 100000000 in
theorem modelLine_ii_5_7 : lawRun 11 10 200 [.i, .i] [(0, 9, 5), (1, 9, 7)] = true := by kernel_rfl
set_option maxRecDepth 1000000 in
set_option maxHeartbeats 100000000 in
theorem modelLine_ii_6_4 : lawRun 11 10 200 [.i, .i] [(0, 9, 6), (1, 9, 4)] = true := by kernel_rfl
set_option maxRecDepth 1000000 in
set_option maxHeartbeats 100000000 in
theorem modelLine_ii_7_1 : lawRun 11 10 200 [.i, .i] [(0, 9, 7), (1, 9, 1)] = true := by kernel_rfl
set_option maxRecDepth 1000000 in
set_option maxHeartbeats 100000000 in
theorem modelLine_ii_7_7 : lawRun 11 10 200 [.i, .i] [(0, 9, 7), (1, 9, 7)] = true := by kernel_rfl
set_option maxRecDepth 1000000 in
set_option maxHeartbeats 100000000 in
theorem modelLine_ii_8_4 : lawRun 11 10 200 [.i, .i] [(0, 9, 8), (1, 9, 4)] = true := by kernel_rfl
end Go.Proofs.Ytmmpgglbeaofkaa
