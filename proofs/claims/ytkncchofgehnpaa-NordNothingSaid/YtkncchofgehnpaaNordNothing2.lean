/-
  'NordNothing': runs of it, part 2.
-/
import Derived.Test.YtkncchofgehnpaaB8
namespace Go.Proofs.Ytkncchofgehnpaa
open Go.RowKit Ex
set_option maxRecDepth 1000000 in
set_option maxHeartbeats 100000000 in
theorem nordNothing_iizf_0_2 : lawRun 12 10 200 [.i, .i, .z, .f] [(0, 5, 0), (1, 3, 2)] = true := by kernel_rfl
set_option maxRecDepth 1000000 in
set_option maxHeartbeats 100000000 in
theorem nordNothing_iizf_2_0 : lawRun 12 10 200 [.i, .i, .z, .f] [(0, 5, 2), (1, 3, 0)] = true := by kernel_rfl
set_option maxRecDepth 1000000 in
set_option maxHeartbeats 100000000 in
theorem nordNothing_iizf_3_1 : lawRun 12 10 200 [.i, .i, .z, .f] [(0, 5, 3), (1, 3, 1)] = true := by kernel_rfl
set_option maxRecDepth 1000000 in
set_option maxHeartbeats 100000000 in
theorem nordNothing_iizf_4_2 : lawRun 12 10 200 [.i, .i, .z, .f] [(0, 5, 4), (1, 3, 2)] = true := by kernel_rfl
set_option maxRecDepth 1000000 in
set_option maxHeartbeats 100000000 in
theorem nordNothing_iiqf_1_0 : lawRun 12 10 200 [.i, .i, .q, .f] [(0, 5, 1), (1, 3, 0)] = true := by kernel_rfl
set_option maxRecDepth 1000000 in
set_option maxHeartbeats 100000000 in
theorem nordNothing_iiqf_2_1 : lawRun 12 10 200 [.i, .i, .q, .f] [(0, 5, 2), (1, 3, 1)] = true := by kernel_rfl
set_option maxRecDepth 1000000 in
set_option maxHeartbeats 100000000 in
theorem nordNothing_iiqf_3_2 : lawRun 12 10 200 [.i, .i, .q, .f] [(0, 5, 3), (1, 3, 2)] = true := by kernel_rfl
end Go.Proofs.Ytkncchofgehnpaa
