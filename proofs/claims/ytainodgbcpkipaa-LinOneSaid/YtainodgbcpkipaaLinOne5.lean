/-
  'LinOne': runs of it, part 5.
-/
import Derived.Test.YtainodgbcpkipaaB6
namespace Go.Proofs.Ytainodgbcpkipaa
open Go.RowKit Ex
set_option maxRecDepth 1000000 in
set_option maxHeartbeats 100000000 in
theorem linOne_iiz_0_5 : lawRun 12 10 200 [.i, .i, .z] [(0, 8, 0), (1, 20, 5)] = true := by kernel_rfl
set_option maxRecDepth 1000000 in
set_option maxHeartbeats 100000000 in
theorem linOne_iiz_1_1 : lawRun 12 10 200 [.i, .i, .z] [(0, 8, 1), (1, 20, 1)] = true := by kernel_rfl
set_option maxRecDepth 1000000 in
set_option maxHeartbeats 100000000 in
theorem linOne_iiz_1_17 : lawRun 12 10 200 [.i, .i, .z] [(0, 8, 1), (1, 20, 17)] = true := by kernel_rfl
set_option maxRecDepth 1000000 in
set_option maxHeartbeats 100000000 in
theorem linOne_iiz_2_13 : lawRun 12 10 200 [.i, .i, .z] [(0, 8, 2), (1, 20, 13)] = true := by kernel_rfl
set_option maxRecDepth 1000000 in
set_option maxHeartbeats 100000000 in
theorem linOne_iiz_3_9 : lawRun 12 10 200 [.i, .i, .z] [(0, 8, 3), (1, 20, 9)] = true := by kernel_rfl
set_option maxRecDepth 1000000 in
set_option maxHeartbeats 100000000 in
theorem linOne_iiz_4_5 : lawRun 12 10 200 [.i, .i, .z] [(0, 8, 4), (1, 20, 5)] = true := by kernel_rfl
set_option maxRecDepth 1000000 in
set_option maxHeartbeats 100000000 in
theorem linOne_iiz_5_1 : lawRun 12 10 200 [.i, .i, .z] [(0, 8, 5), (1, 20, 1)] = true := by kernel_rfl
set_option maxRecDepth 1000000 in
set_option maxHeartbeats 100000000 in
theorem linOne_iiz_5_17 : lawRun 12 10 200 [.i, .i, .z] [(0, 8, 5), (1, 20, 17)] = true := by kernel_rfl
set_option maxRecDepth 1000000 in
set_option maxHeartbeats 100000000 in
theorem linOne_iiz_6_13 : lawRun 12 10 200 [.i, .i, .z] [(0, 8, 6), (1, 20, 13)] = true := by kernel_rfl
set_option maxRecDepth 1000000 in
set_option maxHeartbeats 100000000 in
theorem linOne_iiz_7_9 : lawRun 12 10 200 [.i, .i, .z] [(0, 8, 7), (1, 20, 9)] = true := by kernel_rfl
set_option maxRecDepth 1000000 in
set_option maxHeartbeats 100000000 in
theorem linOne_iiq_0_5 : lawRun 12 10 200 [.i, .i, .q] [(0, 8, 0), (1, 20, 5)] = true := by kernel_rfl
set_option maxRecDepth 1000000 in
set_option maxHeartbeats 100000000 in
theorem linOne_iiq_1_1 : lawRun 12 10 200 [.i, .i, .q] [(0, 8, 1), (1, 20, 1)] = true := by kernel_rfl
set_option maxRecDepth 1000000 in
set_option maxHeartbeats 100000000 in
theorem linOne_iiq_1_17 : lawRun 12 10 200 [.i, .i, .q] [(0, 8, 1), (1, 20, 17)] = true := by kernel_rfl
set_option maxRecDepth 1000000 in
set_option maxHeartbeats 100000000 in
theorem linOne_iiq_2_13 : lawRun 12 10 200 [.i, .i, .q] [(0, 8, 2), (1, 20, 13)] = true := by kernel_rfl
set_option maxRecDepth 1000000 in
set_option maxHeartbeats 100000000 in
theorem linOne_iiq_3_9 : lawRun 12 10 200 [.i, .i, .q] [(0, 8, 3), (1, 20, 9)] = true := by kernel_rfl
set_option maxRecDepth 1000000 in
set_option maxHeartbeats 100000000 in
theorem linOne_iiq_4_5 : lawRun 12 10 200 [.i, .i, .q] [(0, 8, 4), (1, 20, 5)] = true := by kernel_rfl
set_option maxRecDepth 1000000 in
set_option maxHeartbeats 100000000 in
theorem linOne_iiq_5_1 : lawRun 12 10 200 [.i, .i, .q] [(0, 8, 5), (1, 20, 1)] = true := by kernel_rfl
set_option maxRecDepth 1000000 in
set_option maxHeartbeats 100000000 in
theorem linOne_iiq_5_17 : lawRun 12 10 200 [.i, .i, .q] [(0, 8, 5), (1, 20, 17)] = true := by kernel_rfl
set_option maxRecDepth 1000000 in
set_option maxHeartbeats 100000000 in
theorem linOne_iiq_6_13 : lawRun 12 10 200 [.i, .i, .q] [(0, 8, 6), (1, 20, 13)] = true := by kernel_rfl
set_option maxRecDepth 1000000 in
set_option maxHeartbeats 100000000 in
theorem linOne_iiq_7_9 : lawRun 12 10 200 [.i, .i, .q] [(0, 8, 7), (1, 20, 9)] = true := by kernel_rfl
end Go.Proofs.Ytainodgbcpkipaa
