/-
  'CorrLine': runs of it, part 13.
-/
import Derived.Test.YtclhgnhbmlkomaaB9
namespace Go.Proofs.Ytclhgnhbmlkomaa
open Go.RowKit Ex
set_option maxRecDepth 1000000 in
set_option maxHeartbeats 100000000 in
theorem corrLine_iiiiii_0_0_13 : lawRun 9 10 200 [.i, .i, .i, .i, .i, .i] [(3, 2, 0), (4, 4, 0), (5, 20, 13)] = true := by kernel_rfl
set_option maxRecDepth 1000000 in
set_option maxHeartbeats 100000000 in
theorem corrLine_iiiiii_0_1_9 : lawRun 9 10 200 [.i, .i, .i, .i, .i, .i] [(3, 2, 0), (4, 4, 1), (5, 20, 9)] = true := by kernel_rfl
set_option maxRecDepth 1000000 in
set_option maxHeartbeats 100000000 in
theorem corrLine_iiiiii_0_2_5 : lawRun 9 10 200 [.i, .i, .i, .i, .i, .i] [(3, 2, 0), (4, 4, 2), (5, 20, 5)] = true := by kernel_rfl
set_option maxRecDepth 1000000 in
set_option maxHeartbeats 100000000 in
theorem corrLine_iiiiii_0_3_1 : lawRun 9 10 200 [.i, .i, .i, .i, .i, .i] [(3, 2, 0), (4, 4, 3), (5, 20, 1)] = true := by kernel_rfl
set_option maxRecDepth 1000000 in
set_option maxHeartbeats 100000000 in
theorem corrLine_iiiiii_0_3_17 : lawRun 9 10 200 [.i, .i, .i, .i, .i, .i] [(3, 2, 0), (4, 4, 3), (5, 20, 17)] = true := by kernel_rfl
set_option maxRecDepth 1000000 in
set_option maxHeartbeats 100000000 in
theorem corrLine_iiiiii_1_0_13 : lawRun 9 10 200 [.i, .i, .i, .i, .i, .i] [(3, 2, 1), (4, 4, 0), (5, 20, 13)] = true := by kernel_rfl
set_option maxRecDepth 1000000 in
set_option maxHeartbeats 100000000 in
theorem corrLine_iiiiii_1_1_9 : lawRun 9 10 200 [.i, .i, .i, .i, .i, .i] [(3, 2, 1), (4, 4, 1), (5, 20, 9)] = true := by kernel_rfl
set_option maxRecDepth 1000000 in
set_option maxHeartbeats 100000000 in
theorem corrLine_iiiiii_1_2_5 : lawRun 9 10 200 [.i, .i, .i, .i, .i, .i] [(3, 2, 1), (4, 4, 2), (5, 20, 5)] = true := by kernel_rfl
set_option maxRecDepth 1000000 in
set_option maxHeartbeats 100000000 in
theorem corrLine_iiiiii_1_3_1 : lawRun 9 10 200 [.i, .i, .i, .i, .i, .i] [(3, 2, 1), (4, 4, 3), (5, 20, 1)] = true := by kernel_rfl
set_option maxRecDepth 1000000 in
set_option maxHeartbeats 100000000 in
theorem corrLine_iiiiii_1_3_17 : lawRun 9 10 200 [.i, .i, .i, .i, .i, .i] [(3, 2, 1), (4, 4, 3), (5, 20, 17)] = true := by kernel_rfl
end Go.Proofs.Ytclhgnhbmlkomaa
