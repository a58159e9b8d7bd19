/-
  'CorrLine': runs of it, part 4.
-/
import Derived.Test.YtclhgnhbmlkomaaB9
namespace Go.Proofs.Ytclhgnhbmlkomaa
open Go.RowKit Ex
set_option maxRecDepth 1000000 in
set_option maxHeartbeats 100000000 in
theorem corrLine_iiiiii_0_0_4 : lawRun 9 10 200 [.i, .i, .i, .i, .i, .i] [(3, 2, 0), (4, 4, 0), (5, 20, 4)] = true := by kernel_rfl
set_option maxRecDepth 1000000 in
set_option maxHeartbeats 100000000 in
theorem corrLine_iiiiii_0_1_0 : lawRun 9 10 200 [.i, .i, .i, .i, .i, .i] [(3, 2, 0), (4, 4, 1), (5, 20, 0)] = true := by kernel_rfl
set_option maxRecDepth 1000000 in
set_option maxHeartbeats 100000000 in
theorem corrLine_iiiiii_0_1_16 : lawRun 9 10 200 [.i, .i, .i, .i, .i, .i] [(3, 2, 0), (4, 4, 1), (5, 20, 16)] = true := by kernel_rfl
set_option maxRecDepth 1000000 in
set_option maxHeartbeats 100000000 in
theorem corrLine_iiiiii_0_2_12 : lawRun 9 10 200 [.i, .i, .i, .i, .i, .i] [(3, 2, 0), (4, 4, 2), (5, 20, 12)] = true := by kernel_rfl
set_option maxRecDepth 1000000 in
set_option maxHeartbeats 100000000 in
theorem corrLine_iiiiii_0_3_8 : lawRun 9 10 200 [.i, .i, .i, .i, .i, .i] [(3, 2, 0), (4, 4, 3), (5, 20, 8)] = true := by kernel_rfl
set_option maxRecDepth 1000000 in
set_option maxHeartbeats 100000000 in
theorem corrLine_iiiiii_1_0_4 : lawRun 9 10 200 [.i, .i, .i, .i, .i, .i] [(3, 2, 1), (4, 4, 0), (5, 20, 4)] = true := by kernel_rfl
set_option maxRecDepth 1000000 in
set_option maxHeartbeats 100000000 in
theorem corrLine_iiiiii_1_1_0 : lawRun 9 10 200 [.i, .i, .i, .i, .i, .i] [(3, 2, 1), (4, 4, 1), (5, 20, 0)] = true := by kernel_rfl
set_option maxRecDepth 1000000 in
set_option maxHeartbeats 100000000 in
theorem corrLine_iiiiii_1_1_16 : lawRun 9 10 200 [.i, .i, .i, .i, .i, .i] [(3, 2, 1), (4, 4, 1), (5, 20, 16)] = true := by kernel_rfl
set_option maxRecDepth 1000000 in
set_option maxHeartbeats 100000000 in
theorem corrLine_iiiiii_1_2_12 : lawRun 9 10 200 [.i, .i, .i, .i, .i, .i] [(3, 2, 1), (4, 4, 2), (5, 20, 12)] = true := by kernel_rfl
set_option maxRecDepth 1000000 in
set_option maxHeartbeats 100000000 in
theorem corrLine_iiiiii_1_3_8 : lawRun 9 10 200 [.i, .i, .i, .i, .i, .i] [(3, 2, 1), (4, 4, 3), (5, 20, 8)] = true := by kernel_rfl
end Go.Proofs.Ytclhgnhbmlkomaa
