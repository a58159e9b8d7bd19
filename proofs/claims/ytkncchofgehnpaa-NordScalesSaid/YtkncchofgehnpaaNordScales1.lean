/-
  'NordScales': runs of it, part 1.
-/
import Derived.Test.YtkncchofgehnpaaB8
namespace Go.Proofs.Ytkncchofgehnpaa
open Go.RowKit Ex
set_option maxRecDepth 1000000 in
set_option maxHeartbeats 100000000 in
theorem nordScales_iizii_0_1 : lawRun 6 10 200 [.i, .i, .z, .i, .i] [(0, 5, 0), (1, 3, 1)] = true := by kernel_rfl
set_option maxRecDepth 1000000 in
set_option maxHeartbeats 100000000 in
theorem nordScales_iizii_1_1 : lawRun 6 10 200 [.i, .i, .z, .i, .i] [(0, 5, 1), (1, 3, 1)] = true := by kernel_rfl
set_option maxRecDepth 1000000 in
set_option maxHeartbeats 100000000 in
theorem nordScales_iizii_2_1 : lawRun 6 10 200 [.i, .i, .z, .i, .i] [(0, 5, 2), (1, 3, 1)] = true := by kernel_rfl
set_option maxRecDepth 1000000 in
set_option maxHeartbeats 100000000 in
theorem nordScales_iizii_3_1 : lawRun 6 10 200 [.i, .i, .z, .i, .i] [(0, 5, 3), (1, 3, 1)] = true := by kernel_rfl
set_option maxRecDepth 1000000 in
set_option maxHeartbeats 100000000 in
theorem nordScales_iizii_4_1 : lawRun 6 10 200 [.i, .i, .z, .i, .i] [(0, 5, 4), (1, 3, 1)] = true := by kernel_rfl
set_option maxRecDepth 1000000 in
set_option maxHeartbeats 100000000 in
theorem nordScales_iiqii_0_1 : lawRun 6 10 200 [.i, .i, .q, .i, .i] [(0, 5, 0), (1, 3, 1)] = true := by kernel_rfl
set_option maxRecDepth 1000000 in
set_option maxHeartbeats 100000000 in
theorem nordScales_iiqii_1_1 : lawRun 6 10 200 [.i, .i, .q, .i, .i] [(0, 5, 1), (1, 3, 1)] = true := by kernel_rfl
set_option maxRecDepth 1000000 in
set_option maxHeartbeats 100000000 in
theorem nordScales_iiqii_2_1 : lawRun 6 10 200 [.i, .i, .q, .i, .i] [(0, 5, 2), (1, 3, 1)] = true := by kernel_rfl
set_option maxRecDepth 1000000 in
set_option maxHeartbeats 100000000 in
theorem nordScales_iiqii_3_1 : lawRun 6 10 200 [.i, .i, .q, .i, .i] [(0, 5, 3), (1, 3, 1)] = true := by kernel_rfl
set_option maxRecDepth 1000000 in
set_option maxHeartbeats 100000000 in
theorem nordScales_iiqii_4_1 : lawRun 6 10 200 [.i, .i, .q, .i, .i] [(0, 5, 4), (1, 3, 1)] = true := by kernel_rfl
end Go.Proofs.Ytkncchofgehnpaa
