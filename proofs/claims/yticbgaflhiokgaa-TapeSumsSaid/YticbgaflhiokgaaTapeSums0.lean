/-
  'TapeSums': runs of it, part 0.
-/
import Derived.Test.YticbgaflhiokgaaB3
namespace Go.Proofs.Yticbgaflhiokgaa
open Go.RowKit Ex
set_option maxRecDepth 1000000 in
set_option maxHeartbeats 100000000 in
theorem tapeSums_zi_0 : lawRun 11 10 200 [.z, .i] [(1, 4, 0)] = true := by kernel_rfl
set_option maxRecDepth 1000000 in
set_option maxHeartbeats 100000000 in
theorem tapeSums_zi_1 : lawRun 11 10 200 [.z, .i] [(1, 4, 1)] = true := by kernel_rfl
set_option maxRecDepth 1000000 in
set_option maxHeartbeats 100000000 in
theorem tapeSums_zi_2 : lawRun 11 10 200 [.z, .i] [(1, 4, 2)] = true := by kernel_rfl
set_option maxRecDepth 1000000 in
set_option maxHeartbeats 100000000 in
theorem tapeSums_zi_3 : lawRun 11 10 200 [.z, .i] [(1, 4, 3)] = true := by kernel_rfl
set_option maxRecDepth 1000000 in
set_option maxHeartbeats 100000000 in
theorem tapeSums_qi_0 : lawRun 11 10 200 [.q, .i] [(1, 4, 0)] = true := by kernel_rfl
set_option maxRecDepth 1000000 in
set_option maxHeartbeats 100000000 in
theorem tapeSums_qi_1 : lawRun 11 10 200 [.q, .i] [(1, 4, 1)] = true := by kernel_rfl
set_option maxRecDepth 1000000 in
set_option maxHeartbeats 100000000 in
theorem tapeSums_qi_2 : lawRun 11 10 200 [.q, .i] [(1, 4, 2)] = true := by kernel_rfl
set_option maxRecDepth 1000000 in
set_option maxHeartbeats 100000000 in
theorem tapeSums_qi_3 : lawRun 11 10 200 [.q, .i] [(1, 4, 3)] = true := by kernel_rfl
end Go.Proofs.Yticbgaflhiokgaa
