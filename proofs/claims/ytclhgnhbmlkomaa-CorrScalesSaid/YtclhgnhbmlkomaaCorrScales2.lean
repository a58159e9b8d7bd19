/-
  'CorrScales': runs of it, part 2.
-/
import Derived.Test.YtclhgnhbmlkomaaCorrScalesb
namespace Go.Proofs.Ytclhgnhbmlkomaa
open Go.RowKit Ex
set_option maxRecDepth 1000000 in
set_option maxHeartbeats 100000000 in
theorem scRun_12ft : scRun 12 false true = true := by kernel_rfl
set_option maxRecDepth 1000000 in
set_option maxHeartbeats 100000000 in
theorem scRun_11ft : scRun 11 false true = true := by kernel_rfl
set_option maxRecDepth 1000000 in
set_option maxHeartbeats 100000000 in
theorem scRun_10ft : scRun 10 false true = true := by kernel_rfl
set_option maxRecDepth 1000000 in
set_option maxHeartbeats 100000000 in
theorem scRun_9ft : scRun 9 false true = true := by kernel_rfl
set_option maxRecDepth 1000000 in
set_option maxHeartbeats 100000000 in
theorem scRun_8ft : scRun 8 false true = true := by kernel_rfl
set_option maxRecDepth 1000000 in
set_option maxHeartbeats 100000000 in
theorem scRun_7ft : scRun 7 false true = true := by kernel_rfl
set_option maxRecDepth 1000000 in
set_option maxHeartbeats 100000000 in
theorem scRun_6ft : scRun 6 false true = true := by kernel_rfl
set_option maxRecDepth 1000000 in
set_option maxHeartbeats 100000000 in
theorem scRun_5ft : scRun 5 false true = true := by kernel_rfl
set_option maxRecDepth 1000000 in
set_option maxHeartbeats 100000000 in
theorem scRun_4ft : scRun 4 false true = true := by kernel_rfl
set_option maxRecDepth 1000000 in
set_option maxHeartbeats 100000000 in
theorem scRun_3ft : scRun 3 false true = true := by kernel_rfl
set_option maxRecDepth 1000000 in
set_option maxHeartbeats 100000000 in
theorem scRun_2ft : scRun 2 false true = true := by kernel_rfl
set_option maxRecDepth 1000000 in
set_option maxHeartbeats 100000000 in
theorem scRun_1ft : scRun 1 false true = true := by kernel_rfl
end Go.Proofs.Ytclhgnhbmlkomaa
