/-
  Rows of derivatives: nothing that was handed in is changed: order 1.
-/
import Derived.Test.YtkncchofgehnpaaNoc
namespace Go.Proofs.Ytkncchofgehnpaa
open Go.RowKit Ex
set_option maxRecDepth 1000000 in
set_option maxHeartbeats 100000000 in
theorem own_o_0_0 : ownRun (.c .q0) 0 0 = true := by kernel_rfl
set_option maxRecDepth 1000000 in
set_option maxHeartbeats 100000000 in
theorem own_o_0_1 : ownRun (.c .q0) 0 1 = true := by kernel_rfl
set_option maxRecDepth 1000000 in
set_option maxHeartbeats 100000000 in
theorem own_o_0_2 : ownRun (.c .q0) 0 2 = true := by kernel_rfl
theorem own_o_0 : ∀ k, k < 3 → ownRun (.c .q0) 0 k = true := three own_o_0_0 own_o_0_1 own_o_0_2
set_option maxRecDepth 1000000 in
set_option maxHeartbeats 100000000 in
theorem own_i_0_0 : ownRun (.c (.qi 0 0)) 0 0 = true := by kernel_rfl
set_option maxRecDepth 1000000 in
set_option maxHeartbeats 100000000 in
theorem own_i_0_1 : ownRun (.c (.qi 0 0)) 0 1 = true := by kernel_rfl
set_option maxRecDepth 1000000 in
set_option maxHeartbeats 100000000 in
theorem own_i_0_2 : ownRun (.c (.qi 0 0)) 0 2 = true := by kernel_rfl
theorem own_i_0 : ∀ k, k < 3 → ownRun (.c (.qi 0 0)) 0 k = true := three own_i_0_0 own_i_0_1 own_i_0_2
end Go.Proofs.Ytkncchofgehnpaa
