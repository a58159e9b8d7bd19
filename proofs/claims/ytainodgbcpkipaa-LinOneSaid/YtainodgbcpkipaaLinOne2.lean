/-
  'LinOne': runs of it, part 2.
-/
import Derived.Test.YtainodgbcpkipaaB6
namespace Go.Proofs.Ytainodgbcpkipaa
open Go.RowKit Ex
set_option maxRecDepth 1000000 in
set_option maxHeartbeats 100000000 in
theorem linOne_iiz_0_2 : lawRun 12 10 200 [.i, .i, .z] [(0, 8, 0), (1, 20, 2)] = true := by kernel_rfl
set_option maxRecDepth 1000000 in
set_option maxHeartbeats 100000000 in
theorem linOne_iiz_0_18 : lawRun 12 10 200 [.i, .i, .z] [(0, 8, 0), (1, 20, 18)] = true := by kernel_rfl
set_option maxRecDepth 1000000 in
set_option maxHeartbeats 100000000 in
theorem linOne_iiz_1_14 : lawRun 12 10 200 [.i, .i, .z] [(0, 8, 1), (1, 20, 14)] = true := by kernel_rfl
set_option maxRecDepth 1000000 in
set_option maxHeartbeats 100000000 in
theorem linOne_iiz_2_10 : lawRun 12 10 200 [.i, .i, .z] [(0, 8, 2), (1, 20, 10)] = true := by kernel_rfl
set_option maxRecDepth 1000000 in
set_option maxHeartbeats 100000000 in
theorem linOne_iiz_3_6 : lawRun 12 10 200 [.i, .i, .z] [(0, 8, 3), (1, 20, 6)] = true := by kernel_rfl
set_option maxRecDepth 1000000 in
set_option maxHeartbeats 100000000 in
theorem linOne_iiz_4_2 : lawRun 12 10 200 [.i, .i, .z] [(0, 8, 4), (1, 20, 2)] = true := by kernel_rfl
set_option maxRecDepth 1000000 in
set_option maxHeartbeats 100000000 in
theorem linOne_iiz_4_18 : lawRun 12 10 200 [.i, .i, .z] [(0, 8, 4), (1, 20, 18)] = true := by kernel_rfl
set_option maxRecDepth 1000000 in
set_option maxHeartbeats 100000000 in
theorem linOne_iiz_5_14 : lawRun 12 10 200 [.i, .i, .z] [(0, 8, 5), (1, 20, 14)] = true := by kernel_rfl
set_option maxRecDepth 1000000 in
set_option maxHeartbeats 100000000 in
theorem linOne_iiz_6_10 : lawRun 12 10 200 [.i, .i, .z] [(0, 8, 6), (1, 20, 10)] = true := by kernel_rfl
set_option maxRecDepth 1000000 in
set_option maxHeartbeats 100000000 in
theorem linOne_iiz_7_6 : lawRun 12 10 200 [.i, .i, .z] [(0, 8, 7), (1, 20, 6)] = true := by kernel_rfl
set_option maxRecDepth 1000000 in
set_option maxHeartbeats 100000000 in
theorem linOne_iiq_0_2 : lawRun 12 10 200 [.i, .i, .q] [(0, 8, 0), (1, 20, 2)] = true := by kernel_rfl
set_option maxRecDepth 1000000 in
set_option maxHeartbeats 100000000 in
theorem linOne_iiq_0_18 : lawRun 12 10 200 [.i, .i, .q] [(0, 8, 0), (1, 20, 18)] = true := by kernel_rfl
set_option maxRecDepth 1000000 in
set_option maxHeartbeats 100000000 in
theorem linOne_iiq_1_14 : lawRun 12 10 200 [.i, .i, .q] [(0, 8, 1), (1, 20, 14)] = true := by kernel_rfl
set_option maxRecDepth 1000000 in
set_option maxHeartbeats 100000000 in
theorem linOne_iiq_2_10 : lawRun 12 10 200 [.i, .i, .q] [(0, 8, 2), (1, 20, 10)] = true := by kernel_rfl
set_option maxRecDepth 1000000 in
set_option maxHeartbeats 100000000 in
theorem linOne_iiq_3_6 : lawRun 12 10 200 [.i, .i, .q] [(0, 8, 3), (1, 20, 6)] = true := by kernel_rfl
set_option maxRecDepth 1000000 in
set_option maxHeartbeats 100000000 in
theorem linOne_iiq_4_2 : lawRun 12 10 200 [.i, .i, .q] [(0, 8, 4), (1, 20, 2)] = true := by kernel_rfl
set_option maxRecDepth 1000000 in
set_option maxHeartbeats 100000000 in
theorem linOne_iiq_4_18 : lawRun 12 10 200 [.i, .i, .q] [(0, 8, 4), (1, 20, 18)] = true := by kernel_rfl
set_option maxRecDepth 1000000 in
set_option maxHeartbeats 100000000 in
theorem linOne_iiq_5_14 : lawRun 12 10 200 [.i, .i, .q] [(0, 8, 5), (1, 20, 14)] = true := by kernel_rfl
set_option maxRecDepth 1000000 in
set_option maxHeartbeats 100000000 in
theorem linOne_iiq_6_10 : lawRun 12 10 200 [.i, .i, .q] [(0, 8, 6), (1, 20, 10)] = true := by kernel_rfl
set_option maxRecDepth 1000000 in
set_option maxHeartbeats 100000000 in
theorem linOne_iiq_7_6 : lawRun 12 10 200 [.i, .i, .q] [(0, 8, 7), (1, 20, 6)] = true := by kernel_rfl
end Go.Proofs.Ytainodgbcpkipaa
