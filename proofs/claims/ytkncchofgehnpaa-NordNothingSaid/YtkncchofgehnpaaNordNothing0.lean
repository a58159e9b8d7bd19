/-
  'NordNothing': runs of it, part 0.
-/
import Derived.Test.YtkncchofgehnpaaB8
namespace Go.Proofs.Ytkncchofgehnpaa
open Go.RowKit Ex
set_option maxRecDepth 1000000 in
set_option maxHeartbeats 100000000 in
theorem nordNothing_iizf_0_0 : lawRun 12 10 200 [.i, .i, .z, .f] [(0, 5, 0), (1, 3, 0)] = true := by kernel_rfl
set_option maxRecDepth 1000000 in
set_option maxHeartbeats 100000000 in
theorem nordNothing_iizf_1_1 : lawRun 12 10 200 [.i, .i, .z, .f] [(0, 5, 1), (1, 3, 1)] = true := by kernel_rfl
set_option maxRecDepth 1000000 in
set_option maxHeartbeats 100000000 in
theorem nordNothing_iizf_2_2 : lawRun 12 10 200 [.i, .i, .z, .f] [(0, 5, 2), (1, 3, 2)] = true := by kernel_rfl
set_option maxRecDepth 1000000 in
set_option maxHeartbeats 100000000 in
theorem nordNothing_iizf_4_0 : lawRun 12 10 200 [.i, .i, .z, .f] [(0, 5, 4), (1, 3, 0)] = true := by kernel_rfl
set_option maxRecDepth 1000000 in
set_option maxHeartbeats 100000000 in
theorem nordNothing_iiqf_0_1 : lawRun 12 10 200 [.i, .i, .q, .f] [(0, 5, 0), (1, 3, 1)] = true := by kernel_rfl
set_option maxRecDepth 1000000 in
set_option maxHeartbeats 100000000 in
theorem nordNothing_iiqf_1_2 : lawRun 12 10 200 [.i, .i, .q, .f] [(0, 5, 1), (1, 3, 2)] = true := by kernel_rfl
set_option maxRecDepth 1000000 in
set_option maxHeartbeats 100000000 in
theorem nordNothing_iiqf_3_0 : lawRun 12 10 200 [.i, .i, .q, .f] [(0, 5, 3), (1, 3, 0)] = true := by kernel_rfl
set_option maxRecDepth 1000000 in
set_option maxHeartbeats 100000000 in
theorem nordNothing_iiqf_4_1 : lawRun 12 10 200 [.i, .i, .q, .f] [(0, 5, 4), (1, 3, 1)] = true := by kernel_rfl
end Go.Proofs.Ytkncchofgehnpaa
