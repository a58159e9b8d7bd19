/-
  'CorrLine': runs of it, part 3.
-/
import Derived.Test.YtclhgnhbmlkomaaB9
namespace Go.Proofs.Ytclhgnhbmlkomaa
open Go.RowKit Ex
set_option maxRecDepth 1000000 in
set_option maxHeartbeats 100000000 in
theorem corrLine_iiiiii_0_0_3 : lawRun 9 10 200 [.i, .i, .i, .i, .i, .i] [(3, 2, 0), (4, 4, 0), (5, 20, 3)] = true := by kernel_rfl
set_option maxRecDepth 1000000 in
set_option maxHeartbeats 100000000 in
theorem corrLine_iiiiii_0_0_19 : lawRun 9 10 200 [.i, .i, .i, .i, .i, .i] [(3, 2, 0), (4, 4, 0), (5, 20, 19)] = true := by kernel_rfl
set_option maxRecDepth 1000000 in
set_option maxHeartbeats 100000000 in
theorem corrLine_iiiiii_0_1_15 : lawRun 9 10 200 [.i, .i, .i, .i, .i, .i] [(3, 2, 0), (4, 4, 1), (5, 20, 15)] = true := by kernel_rfl
set_option maxRecDepth 1000000 in
set_option maxHeartbeats 100000000 in
theorem corrLine_iiiiii_0_2_11 : lawRun 9 10 200 [.i, .i, .i, .i, .i, .i] [(3, 2, 0), (4, 4, 2), (5, 20, 11)] = true := by kernel_rfl
set_option maxRecDepth 1000000 in
set_option maxHeartbeats 100000000 in
theorem corrLine_iiiiii_0_3_7 : lawRun 9 10 200 [.i, .i, .i, .i, .i, .i] [(3, 2, 0), (4, 4, 3), (5, 20, 7)] = true := by kernel_rfl
set_option maxRecDepth 1000000 in
set_option maxHeartbeats 100000000 in
theorem corrLine_iiiiii_1_0_3 : lawRun 9 10 200 [.i, .i, .i, .i, .i, .i] [(3, 2, 1), (4, 4, 0), (5, 20, 3)] = true := by kernel_rfl
set_option maxRecDepth 1000000 in
set_option maxHeartbeats 100000000 in
theorem corrLine_iiiiii_1_0_19 : lawRun 9 10 200 [.i, .i, .i, .i, .i, .i] [(3, 2, 1), (4, 4, 0), (5, 20, 19)] = true := by kernel_rfl
set_option maxRecDepth 1000000 in
set_option maxHeartbeats 100000000 in
theorem corrLine_iiiiii_1_1_15 : lawRun 9 10 200 [.i, .i, .i, .i, .i, .i] [(3, 2, 1), (4, 4, 1), (5, 20, 15)] = true := by kernel_rfl
set_option maxRecDepth 1000000 in
set_option maxHeartbeats 100000000 in
theorem corrLine_iiiiii_1_2_11 : lawRun 9 10 200 [.i, .i, .i, .i, .i, .i] [(3, 2, 1), (4, 4, 2), (5, 20, 11)] = true := by kernel_rfl
set_option maxRecDepth 1000000 in
set_option maxHeartbeats 100000000 in
theorem corrLine_iiiiii_1_3_7 : lawRun 9 10 200 [.i, .i, .i, .i, .i, .i] [(3, 2, 1), (4, 4, 3), (5, 20, 7)] = true := by kernel_rfl
end Go.Proofs.Ytclhgnhbmlkomaa
