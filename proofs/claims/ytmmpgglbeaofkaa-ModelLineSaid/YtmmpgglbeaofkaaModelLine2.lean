/-
  'ModelLine': runs of it, part 2.
-/
import Derived.Test.YtmmpgglbeaofkaaBI5
namespace Go.Proofs.Ytmmpgglbeaofkaa
open Go.RowKit Ex
set_option maxRecDepth 1000000 in
set_option maxHeartbeats 100000000 in
theorem modelLine_ii_0_2 : lawRun 11 10 200 [.i, .i] [(0, 9, 0), (1, 9, 2)] = true := by kernel_rfl
set_option maxRecDepth 1000000 in
set_option maxHeartbeats 100000000 in
theorem modelLine_ii_0_8 : lawRun 11 10 200 [.i, .i] [(0, 9, 0), (1, 9, 8)] = true := by kernel_rfl
set_option maxRecDepth 1000000 in
set_option maxHeartbeats 100000000 in
theorem modelLine_ii_1_5 : lawRun 11 10 200 [.i, .i] [(0, 9, 1), (1, 9, 5)] = true := by kernel_rfl
set_option maxRecDepth 1000000 in
set_option maxHeartbeats 100000000 in
theorem modelLine_ii_2_2 : lawRun 11 10 200 [.i, .i] [(0, 9, 2), (1, 9, 2)] = true := by kernel_rfl
set_option maxRecDepth 1000000 in
set_option maxHeartbeats 100000000 in
theorem modelLine_ii_2_8 : lawRun 11 10 200 [.i, .i] [(0, 9, 2), (1, 9, 8)] = true := by kernel_rfl
set_option maxRecDepth 1000000 in
set_option maxHeartbeats 100000000 in
theorem modelLine_ii_3_5 : lawRun 11 10 200 [.i, .i] [(0, 9, 3), (1, 9, 5)] = true := by kernel_rfl
set_option maxRecDepth 1000000 in
set_option maxHeartbeats 100000000 in
theorem modelLine_ii_4_2 : lawRun 11 10 200 [.i, .i] [(0, 9, 4), (1, 9, 2)] = true := by kernel_rfl
set_option maxRecDepth 1000000 in
set_option maxHeartbeats 100000000 in
theorem modelLine_ii_4_8 : lawRun 11 10 200 [.i, .i] [(0, 9, 4), (1, 9, 8)] = true := by kernel_rfl
set_option maxRecDepth 1000000 in
set_option maxHeartbeats 100000000 in
theorem modelLine_ii_5_5 : lawRun 11 10 200 [.i, .i] [(0, 9, 5), (1, 9, 5)] = true := by kernel_rfl
set_option maxRecDepth 1000000 in
set_option maxHeartbeats 100000000 in
theorem modelLine_ii_6_2 : lawRun 11 10 200 [.i, .i] [(0, 9, 6), (1, 9, 2)] = true := by kernel_rfl
set_option maxRecDepth 1000000 in
set_option maxHeartbeats 100000000 in
theorem modelLine_ii_6_8 : lawRun 11 10 200 [.i, .i] [(0, 9, 6), (1, 9, 8)] = true := by kernel_rfl
set_option maxRecDepth 1000000 in
set_option maxHeartbeats 100000000 in
theorem modelLine_ii_7_5 : lawRun 11 10 200 [.i, .i] [(0, 9, 7), (1, 9, 5)] = true := by kernel_rfl
set_option maxRecDepth 1000000 in
set_option maxHeartbeats 100000000 in
theorem modelLine_ii_8_2 : lawRun 11 10 200 [.i, .i] [(0, 9, 8), (1, 9, 2)] = true := by kernel_rfl
set_option maxRecDepth 1000000 in
set_option maxHeartbeats 100000000 in
theorem modelLine_ii_8_8 : lawRun 11 10 200 [.i, .i] [(0, 9, 8), (1, 9, 8)] = true := by kernel_rfl
end Go.Proofs.Ytmmpgglbeaofkaa
