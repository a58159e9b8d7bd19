/-
  'LinUpper': runs of it, part 1.
-/
import Derived.Test.YtainodgbcpkipaaB6
namespace Go.Proofs.Ytainodgbcpkipaa
open Go.RowKit Ex
set_option maxRecDepth 1000000 in
set_option maxHeartbeats 100000000 in
theorem linUpper_izz_1 : lawRun 10 10 200 [.i, .z, .z] [(0, 5, 1)] = true := by kernel_rfl
set_option maxRecDepth 1000000 in
set_option maxHeartbeats 100000000 in
theorem linUpper_izz_3 : lawRun 10 10 200 [.i, .z, .z] [(0, 5, 3)] = true := by kernel_rfl
set_option maxRecDepth 1000000 in
set_option maxHeartbeats 100000000 in
theorem linUpper_izq_0 : lawRun 10 10 200 [.i, .z, .q] [(0, 5, 0)] = true := by kernel_rfl
set_option maxRecDepth 1000000 in
set_option maxHeartbeats 100000000 in
theorem linUpper_izq_2 : lawRun 10 10 200 [.i, .z, .q] [(0, 5, 2)] = true := by kernel_rfl
set_option maxRecDepth 1000000 in
set_option maxHeartbeats 100000000 in
theorem linUpper_izq_4 : lawRun 10 10 200 [.i, .z, .q] [(0, 5, 4)] = true := by kernel_rfl
set_option maxRecDepth 1000000 in
set_option maxHeartbeats 100000000 in
theorem linUpper_iqz_1 : lawRun 10 10 200 [.i, .q, .z] [(0, 5, 1)] = true := by kernel_rfl
set_option maxRecDepth 1000000 in
set_option maxHeartbeats 100000000 in
theorem linUpper_iqz_3 : lawRun 10 10 200 [.i, .q, .z] [(0, 5, 3)] = true := by kernel_rfl
set_option maxRecDepth 1000000 in
set_option maxHeartbeats 100000000 in
theorem linUpper_iqq_0 : lawRun 10 10 200 [.i, .q, .q] [(0, 5, 0)] = true := by kernel_rfl
set_option maxRecDepth 1000000 in
set_option maxHeartbeats 100000000 in
theorem linUpper_iqq_2 : lawRun 10 10 200 [.i, .q, .q] [(0, 5, 2)] = true := by kernel_rfl
set_option maxRecDepth 1000000 in
set_option maxHeartbeats 100000000 in
theorem linUpper_iqq_4 : lawRun 10 10 200 [.i, .q, .q] [(0, 5, 4)] = true := by kernel_rfl
end Go.Proofs.Ytainodgbcpkipaa
