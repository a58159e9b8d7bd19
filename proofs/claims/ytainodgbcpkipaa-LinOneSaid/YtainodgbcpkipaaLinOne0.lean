/-
  'LinOne': runs of it, part 0.
-/
import Derived.Test.YtainodgbcpkipaaB6
namespace Go.Proofs.Ytainodgbcpkipaa
open Go.RowKit Ex
set_option maxRecDepth 1000000 in
set_option maxHeartbeats 100000000 in
theorem linOne_iiz_0_0 : lawRun 12 10 200 [.i, .i, .z] [(0, 8, 0), (1, 20, 0)] = true := by kernel_rfl
set_option maxRecDepth 1000000 in
set_option maxHeartbeats 100000000 in
theorem linOne_iiz_0_16 : lawRun 12 10 200 [.i, .i, .z] [(0, 8, 0), (1, 20, 16)] = true := by kernel_rfl
set_option maxRecDepth 1000000 in
set_option maxHeartbeats 100000000 in
theorem linOne_iiz_1_12 : lawRun 12 10 200 [.i, .i, .z] [(0, 8, 1), (1, 20, 12)] = true := by kernel_rfl
set_option maxRecDepth 1000000 in
set_option maxHeartbeats 100000000 in
theorem linOne_iiz_2_8 : lawRun 12 10 200 [.i, .i, .z] [(0, 8, 2), (1, 20, 8)] = true := by kernel_rfl
set_option maxRecDepth 1000000 in
set_option maxHeartbeats 100000000 in
theorem linOne_iiz_3_4 : lawRun 12 10 200 [.i, .i, .z] [(0, 8, 3), (1, 20, 4)] = true := by kernel_rfl
set_option maxRecDepth 1000000 in
set_option maxHeartbeats 100000000 in
theorem linOne_iiz_4_0 : lawRun 12 10 200 [.i, .i, .z] [(0, 8, 4), (1, 20, 0)] = true := by kernel_rfl
set_option maxRecDepth 1000000 in
set_option maxHeartbeats 100000000 in
theorem linOne_iiz_4_16 : lawRun 12 10 200 [.i, .i, .z] [(0, 8, 4), (1, 20, 16)] = true := by kernel_rfl
set_option maxRecDepth 1000000 in
set_option maxHeartbeats 100000000 in
theorem linOne_iiz_5_12 : lawRun 12 10 200 [.i, .i, .z] [(0, 8, 5), (1, 20, 12)] = true := by kernel_rfl
set_option maxRecDepth 1000000 in
set_option maxHeartbeats 100000000 in
theorem linOne_iiz_6_8 : lawRun 12 10 200 [.i, .i, .z] [(0, 8, 6), (1, 20, 8)] = true := by kernel_rfl
set_option maxRecDepth 1000000 in
set_option maxHeartbeats 100000000 in
theorem linOne_iiz_7_4 : lawRun 12 10 200 [.i, .i, .z] [(0, 8, 7), (1, 20, 4)] = true := by kernel_rfl
set_option maxRecDepth 1000000 in
set_option maxHeartbeats 100000000 in
theorem linOne_iiq_0_0 : lawRun 12 10 200 [.i, .i, .q] [(0, 8, 0), (1, 20, 0)] = true := by kernel_rfl
set_option maxRecDepth 1000000 in
set_option maxHeartbeats 100000000 in
theorem linOne_iiq_0_16 : lawRun 12 10 200 [.i, .i, .q] [(0, 8, 0), (1, 20, 16)] = true := by kernel_rfl
set_option maxRecDepth 1000000 in
set_option maxHeartbeats 100000000 in
theorem linOne_iiq_1_12 : lawRun 12 10 200 [.i, .i, .q] [(0, 8, 1), (1, 20, 12)] = true := by kernel_rfl
set_option maxRecDepth 1000000 in
set_option maxHeartbeats 100000000 in
theorem linOne_iiq_2_8 : lawRun 12 10 200 [.i, .i, .q] [(0, 8, 2), (1, 20, 8)] = true := by kernel_rfl
set_option maxRecDepth 1000000 in
set_option maxHeartbeats 100000000 in
theorem linOne_iiq_3_4 : lawRun 12 10 200 [.i, .i, .q] [(0, 8, 3), (1, 20, 4)] = true := by kernel_rfl
set_option maxRecDepth 1000000 in
set_option maxHeartbeats 100000000 in
theorem linOne_iiq_4_0 : lawRun 12 10 200 [.i, .i, .q] [(0, 8, 4), (1, 20, 0)] = true := by kernel_rfl
set_option maxRecDepth 1000000 in
set_option maxHeartbeats 100000000 in
theorem linOne_iiq_4_16 : lawRun 12 10 200 [.i, .i, .q] [(0, 8, 4), (1, 20, 16)] = true := by kernel_rfl
set_option maxRecDepth 1000000 in
set_option maxHeartbeats 100000000 in
theorem linOne_iiq_5_12 : lawRun 12 10 200 [.i, .i, .q] [(0, 8, 5), (1, 20, 12)] = true := by kernel_rfl
set_option maxRecDepth 1000000 in
set_option maxHeartbeats 100000000 in
theorem linOne_iiq_6_8 : lawRun 12 10 200 [.i, .i, .q] [(0, 8, 6), (1, 20, 8)] = true := by kernel_rfl
set_option maxRecDepth 1000000 in
set_option maxHeartbeats 100000000 in
theorem linOne_iiq_7_4 : lawRun 12 10 200 [.i, .i, .q] [(0, 8, 7), (1, 20, 4)] = true := by kernel_rfl
end Go.Proofs.Ytainodgbcpkipaa
