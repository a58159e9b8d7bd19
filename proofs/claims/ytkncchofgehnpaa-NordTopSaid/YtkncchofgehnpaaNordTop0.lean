/-
  'NordTop': runs of it, part 0.
-/
import Derived.Test.YtkncchofgehnpaaB8
namespace Go.Proofs.Ytkncchofgehnpaa
open Go.RowKit Ex
set_option maxRecDepth 1000000 in
set_option maxHeartbeats 100000000 in
theorem nordTop_iiz_0_0 : lawRun 11 10 200 [.i, .i, .z] [(0, 5, 0), (1, 3, 0)] = true := by kernel_rfl
set_option maxRecDepth 1000000 in
set_option maxHeartbeats 100000000 in
theorem nordTop_iiz_0_2 : lawRun 11 10 200 [.i, .i, .z] [(0, 5, 0), (1, 3, 2)] = true := by kernel_rfl
set_option maxRecDepth 1000000 in
set_option maxHeartbeats 100000000 in
theorem nordTop_iiz_1_1 : lawRun 11 10 200 [.i, .i, .z] [(0, 5, 1), (1, 3, 1)] = true := by kernel_rfl
set_option maxRecDepth 1000000 in
set_option maxHeartbeats 100000000 in
theorem nordTop_iiz_2_0 : lawRun 11 10 200 [.i, .i, .z] [(0, 5, 2), (1, 3, 0)] = true := by kernel_rfl
set_option maxRecDepth 1000000 in
set_option maxHeartbeats 100000000 in
theorem nordTop_iiz_2_2 : lawRun 11 10 200 [.i, .i, .z] [(0, 5, 2), (1, 3, 2)] = true := by kernel_rfl
set_option maxRecDepth 1000000 in
set_option maxHeartbeats 100000000 in
theorem nordTop_iiz_3_1 : lawRun 11 10 200 [.i, .i, .z] [(0, 5, 3), (1, 3, 1)] = true := by kernel_rfl
set_option maxRecDepth 1000000 in
set_option maxHeartbeats 100000000 in
theorem nordTop_iiz_4_0 : lawRun 11 10 200 [.i, .i, .z] [(0, 5, 4), (1, 3, 0)] = true := by kernel_rfl
set_option maxRecDepth 1000000 in
set_option maxHeartbeats 100000000 in
theorem nordTop_iiz_4_2 : lawRun 11 10 200 [.i, .i, .z] [(0, 5, 4), (1, 3, 2)] = true := by kernel_rfl
set_option maxRecDepth 1000000 in
set_option maxHeartbeats 100000000 in
theorem nordTop_iiq_0_1 : lawRun 11 10 200 [.i, .i, .q] [(0, 5, 0), (1, 3, 1)] = true := by kernel_rfl
set_option maxRecDepth 1000000 in
set_option maxHeartbeats 100000000 in
theorem nordTop_iiq_1_0 : lawRun 11 10 200 [.i, .i, .q] [(0, 5, 1), (1, 3, 0)] = true := by kernel_rfl
set_option maxRecDepth 1000000 in
set_option maxHeartbeats 100000000 in
theorem nordTop_iiq_1_2 : lawRun 11 10 200 [.i, .i, .q] [(0, 5, 1), (1, 3, 2)] = true := by kernel_rfl
set_option maxRecDepth 1000000 in
set_option maxHeartbeats 100000000 in
theorem nordTop_iiq_2_1 : lawRun 11 10 200 [.i, .i, .q] [(0, 5, 2), (1, 3, 1)] = true := by kernel_rfl
set_option maxRecDepth 1000000 in
set_option maxHeartbeats 100000000 in
theorem nordTop_iiq_3_0 : lawRun 11 10 200 [.i, .i, .q] [(0, 5, 3), (1, 3, 0)] = true := by kernel_rfl
set_option maxRecDepth 1000000 in
set_option maxHeartbeats 100000000 in
theorem nordTop_iiq_3_2 : lawRun 11 10 200 [.i, .i, .q] [(0, 5, 3), (1, 3, 2)] = true := by kernel_rfl
set_option maxRecDepth 1000000 in
set_option maxHeartbeats 100000000 in
theorem nordTop_iiq_4_1 : lawRun 11 10 200 [.i, .i, .q] [(0, 5, 4), (1, 3, 1)] = true := by kernel_rfl
end Go.Proofs.Ytkncchofgehnpaa
