/-
  'NordSums': runs of it, part 0.
-/
import Derived.Test.YtkncchofgehnpaaB8
namespace Go.Proofs.Ytkncchofgehnpaa
open Go.RowKit Ex
set_option maxRecDepth 1000000 in
set_option maxHeartbeats 100000000 in
theorem nordSums_iizzi_0_0 : lawRun 9 10 200 [.i, .i, .z, .z, .i] [(0, 5, 0), (1, 3, 0)] = true := by kernel_rfl
set_option maxRecDepth 1000000 in
set_option maxHeartbeats 100000000 in
theorem nordSums_iizzi_4_0 : lawRun 9 10 200 [.i, .i, .z, .z, .i] [(0, 5, 4), (1, 3, 0)] = true := by kernel_rfl
set_option maxRecDepth 1000000 in
set_option maxHeartbeats 100000000 in
theorem nordSums_iizqi_3_0 : lawRun 9 10 200 [.i, .i, .z, .q, .i] [(0, 5, 3), (1, 3, 0)] = true := by kernel_rfl
set_option maxRecDepth 1000000 in
set_option maxHeartbeats 100000000 in
theorem nordSums_iiqzi_2_0 : lawRun 9 10 200 [.i, .i, .q, .z, .i] [(0, 5, 2), (1, 3, 0)] = true := by kernel_rfl
set_option maxRecDepth 1000000 in
set_option maxHeartbeats 100000000 in
theorem nordSums_iiqqi_1_0 : lawRun 9 10 200 [.i, .i, .q, .q, .i] [(0, 5, 1), (1, 3, 0)] = true := by kernel_rfl
end Go.Proofs.Ytkncchofgehnpaa
