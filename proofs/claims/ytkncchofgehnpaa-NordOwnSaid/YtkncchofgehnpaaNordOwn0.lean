/-
  'NordOwn': runs of it, part 0.
-/
import Derived.Test.YtkncchofgehnpaaB8
namespace Go.Proofs.Ytkncchofgehnpaa
open Go.RowKit Ex
set_option maxRecDepth 1000000 in
set_option maxHeartbeats 100000000 in
theorem nordOwn_iizi_0_0 : lawRun 8 10 200 [.i, .i, .z, .i] [(0, 5, 0), (1, 3, 0)] = true := by kernel_rfl
set_option maxRecDepth 1000000 in
set_option maxHeartbeats 100000000 in
theorem nordOwn_iizi_1_1 : lawRun 8 10 200 [.i, .i, .z, .i] [(0, 5, 1), (1, 3, 1)] = true := by kernel_rfl
set_option maxRecDepth 1000000 in
set_option maxHeartbeats 100000000 in
theorem nordOwn_iizi_2_2 : lawRun 8 10 200 [.i, .i, .z, .i] [(0, 5, 2), (1, 3, 2)] = true := by kernel_rfl
set_option maxRecDepth 1000000 in
set_option maxHeartbeats 100000000 in
theorem nordOwn_iizi_4_0 : lawRun 8 10 200 [.i, .i, .z, .i] [(0, 5, 4), (1, 3, 0)] = true := by kernel_rfl
set_option maxRecDepth 1000000 in
set_option maxHeartbeats 100000000 in
theorem nordOwn_iiqi_0_1 : lawRun 8 10 200 [.i, .i, .q, .i] [(0, 5, 0), (1, 3, 1)] = true := by kernel_rfl
set_option maxRecDepth 1000000 in
set_option maxHeartbeats 100000000 in
theorem nordOwn_iiqi_1_2 : lawRun 8 10 200 [.i, .i, .q, .i] [(0, 5, 1), (1, 3, 2)] = true := by kernel_rfl
set_option maxRecDepth 1000000 in
set_option maxHeartbeats 100000000 in
theorem nordOwn_iiqi_3_0 : lawRun 8 10 200 [.i, .i, .q, .i] [(0, 5, 3), (1, 3, 0)] = true := by kernel_rfl
set_option maxRecDepth 1000000 in
set_option maxHeartbeats 100000000 in
theorem nordOwn_iiqi_4_1 : lawRun 8 10 200 [.i, .i, .q, .i] [(0, 5, 4), (1, 3, 1)] = true := by kernel_rfl
end Go.Proofs.Ytkncchofgehnpaa
