/-
  'CorrLine': runs of it, part 2.
-/
import Derived.Test.YtclhgnhbmlkomaaB9
namespace Go.Proofs.Ytclhgnhbmlkomaa
open Go.RowKit Ex
set_option maxRecDepth 1000000 in
set_option maxHeartbeats 100000000 in
theorem corrLine_iiiiii_0_0_2 : lawRun 9 10 200 [.i, .i, .i, .i, .i, .i] [(3, 2, 0), (4, 4, 0), (5, 20, 2)] = true := by kernel_rfl
set_option maxRecDepth 1000000 in
set_option maxHeartbeats 100000000 in
theorem corrLine_iiiiii_0_0_18 : lawRun 9 10 200 [.i, .i, .i, .i, .i, .i] [(3, 2, 0), (4, 4, 0), (5, 20, 18)] = true := by kernel_rfl
set_option maxRecDepth 1000000 in
set_option maxHeartbeats 100000000 in
theorem corrLine_iiiiii_0_1_14 : lawRun 9 10 200 [.i, .i, .i, .i, .i, .i] [(3, 2, 0), (4, 4, 1), (5, 20, 14)] = true := by kernel_rfl
set_option maxRecDepth 1000000 in
set_option maxHeartbeats 100000000 in
theorem corrLine_iiiiii_0_2_10 : lawRun 9 10 200 [.i, .i, .i, .i, .i, .i] [(3, 2, 0), (4, 4, 2), (5, 20, 10)] = true := by kernel_rfl
set_option maxRecDepth 1000000 in
set_option maxHeartbeats 100000000 in
theorem corrLine_iiiiii_0_3_6 : lawRun 9 10 200 [.i, .i, .i, .i, .i, .i] [(3, 2, 0), (4, 4, 3), (5, 20, 6)] = true := by kernel_rfl
set_option maxRecDepth 1000000 in
set_option maxHeartbeats 100000000 in
theorem corrLine_iiiiii_1_0_2 : lawRun 9 10 200 [.i, .i, .i, .i, .i, .i] [(3, 2, 1), (4, 4, 0), (5, 20, 2)] = true := by kernel_rfl
set_option maxRecDepth 1000000 in
set_option maxHeartbeats 100000000 in
theorem corrLine_iiiiii_1_0_18 : lawRun 9 10 200 [.i, .i, .i, .i, .i, .i] [(3, 2, 1), (4, 4, 0), (5, 20, 18)] = true := by kernel_rfl
set_option maxRecDepth 1000000 in
set_option maxHeartbeats 100000000 in
theorem corrLine_iiiiii_1_1_14 : lawRun 9 10 200 [.i, .i, .i, .i, .i, .i] [(3, 2, 1), (4, 4, 1), (5, 20, 14)] = true := by kernel_rfl
set_option maxRecDepth 1000000 in
set_option maxHeartbeats 100000000 in
theorem corrLine_iiiiii_1_2_10 : lawRun 9 10 200 [.i, .i, .i, .i, .i, .i] [(3, 2, 1), (4, 4, 2), (5, 20, 10)] = true := by kernel_rfl
set_option maxRecDepth 1000000 in
set_option maxHeartbeats 100000000 in
theorem corrLine_iiiiii_1_3_6 : lawRun 9 10 200 [.i, .i, .i, .i, .i, .i] [(3, 2, 1), (4, 4, 3), (5, 20, 6)] = true := by kernel_rfl
end Go.Proofs.Ytclhgnhbmlkomaa
