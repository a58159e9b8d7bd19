/-
  'LinOne': runs of it, part 11.
-/
import Derived.Test.YtainodgbcpkipaaB6
namespace Go.Proofs.Ytainodgbcpkipaa
open Go.RowKit Ex
set_option maxRecDepth 1000000 in
set_option maxHeartbeats 100000000 in
theorem linOne_iiz_0_11 : lawRun 12 10 200 [.i, .i, .z] [(0, 8, 0), (1, 20, 11)] = true := by kernel_rfl
set_option maxRecDepth 1000000 in
set_option maxHeartbeats 100000000 in
theorem linOne_iiz_1_7 : lawRun 12 10 200 [.i, .i, .z] [(0, 8, 1), (1, 20, 7)] = true := by kernel_rfl
set_option maxRecDepth 1000000 in
set_option maxHeartbeats 100000000 in
theorem linOne_iiz_2_3 : lawRun 12 10 200 [.i, .i, .z] [(0, 8, 2), (1, 20, 3)] = true := by kernel_rfl
set_option maxRecDepth 1000000 in
set_option maxHeartbeats 100000000 in
theorem linOne_iiz_2_19 : lawRun 12 10 200 [.i, .i, .z] [(0, 8, 2), (1, 20, 19)] = true := by kernel_rfl
set_option maxRecDepth 1000000 in
set_option maxHeartbeats 100000000 in
theorem linOne_iiz_3_15 : lawRun 12 10 200 [.i, .i, .z] [(0, 8, 3), (1, 20, 15)] = true := by kernel_rfl
set_option maxRecDepth 1000000 in
set_option maxHeartbeats 100000000 in
theorem linOne_iiz_4_11 : lawRun 12 10 200 [.i, .i, .z] [(0, 8, 4), (1, 20, 11)] = true := by kernel_rfl
set_option maxRecDepth 1000000 in
set_option maxHeartbeats 100000000 in
theorem linOne_iiz_5_7 : lawRun 12 10 200 [.i, .i, .z] [(0, 8, 5), (1, 20, 7)] = true := by kernel_rfl
set_option maxRecDepth 1000000 in
set_option maxHeartbeats 100000000 in
theorem linOne_iiz_6_3 : lawRun 12 10 200 [.i, .i, .z] [(0, 8, 6), (1, 20, 3)] = true := by kernel_rfl
set_option maxRecDepth 1000000 in
set_option maxHeartbeats 100000000 in
theorem linOne_iiz_6_19 : lawRun 12 10 200 [.i, .i, .z] [(0, 8, 6), (1, 20, 19)] = true := by kernel_rfl
set_option maxRecDepth 1000000 in
set_option maxHeartbeats 100000000 in
theorem linOne_iiz_7_15 : lawRun 12 10 200 [.i, .i, .z] [(0, 8, 7), (1, 20, 15)] = true := by kernel_rfl
set_option maxRecDepth 1000000 in
set_option maxHeartbeats 100000000 in
theorem linOne_iiq_0_11 : lawRun 12 10 200 [.i, .i, .q] [(0, 8, 0), (1, 20, 11)] = true := by kernel_rfl
set_option maxRecDepth 1000000 in
set_option maxHeartbeats 100000000 in
theorem linOne_iiq_1_7 : lawRun 12 10 200 [.i, .i, .q] [(0, 8, 1), (1, 20, 7)] = true := by kernel_rfl
set_option maxRecDepth 1000000 in
set_option maxHeartbeats 100000000 in
theorem linOne_iiq_2_3 : lawRun 12 10 200 [.i, .i, .q] [(0, 8, 2), (1, 20, 3)] = true := by kernel_rfl
set_option maxRecDepth 1000000 in
set_option maxHeartbeats 100000000 in
theorem linOne_iiq_2_19 : lawRun 12 10 200 [.i, .i, .q] [(0, 8, 2), (1, 20, 19)] = true := by kernel_rfl
set_option maxRecDepth 1000000 in
set_option maxHeartbeats 100000000 in
theorem linOne_iiq_3_15 : lawRun 12 10 200 [.i, .i, .q] [(0, 8, 3), (1, 20, 15)] = true := by kernel_rfl
set_option maxRecDepth 1000000 in
set_option maxHeartbeats 100000000 in
theorem linOne_iiq_4_11 : lawRun 12 10 200 [.i, .i, .q] [(0, 8, 4), (1, 20, 11)] = true := by kernel_rfl
set_option maxRecDepth 1000000 in
set_option maxHeartbeats 100000000 in
theorem linOne_iiq_5_7 : lawRun 12 10 200 [.i, .i, .q] [(0, 8, 5), (1, 20, 7)] = true := by kernel_rfl
set_option maxRecDepth 1000000 in
set_option maxHeartbeats 100000000 in
theorem linOne_iiq_6_3 : lawRun 12 10 200 [.i, .i, .q] [(0, 8, 6), (1, 20, 3)] = true := by kernel_rfl
set_option maxRecDepth 1000000 in
set_option maxHeartbeats 100000000 in
theorem linOne_iiq_6_19 : lawRun 12 10 200 [.i, .i, .q] [(0, 8, 6), (1, 20, 19)] = true := by kernel_rfl
set_option maxRecDepth 1000000 in
set_option maxHeartbeats 100000000 in
theorem linOne_iiq_7_15 : lawRun 12 10 200 [.i, .i, .q] [(0, 8, 7), (1, 20, 15)] = true := by kernel_rfl
end Go.Proofs.Ytainodgbcpkipaa
