/-
  'CorrScales': runs of it, part 0.
-/
import Derived.Test.YtclhgnhbmlkomaaCorrScalesb
namespace Go.Proofs.Ytclhgnhbmlkomaa
open Go.RowKit Ex
set_option maxRecDepth 1000000 in
set_option maxHeartbeats 100000000 in
theorem scRun_12tt : scRun 12 true true = true := by kernel_rfl
set_option maxRecDepth 1000000 in
set_option maxHeartbeats 100000000 in
theorem scRun_11tt : scRun 11 true true = true := by kernel_rfl
set_option maxRecDepth 1000000 in
set_option maxHeartbeats 100000000 in
theorem scRun_10tt : scRun 10 true true = true := by kernel_rfl
set_option maxRecDepth 1000000 in
set_option maxHeartbeats 100000000 in
theorem scRun_9tt : scRun 9 true true = true := by kernel_rfl
set_option maxRecDepth 1000000 in
set_option maxHeartbeats 100000000 in
theorem scRun_8tt : scRun 8 true true = true := by kernel_rfl
set_option maxRecDepth 1000000 in
set_option maxHeartbeats 100000000 in
theorem scRun_7tt : scRun 7 true true = true := by kernel_rfl
set_option maxRecDepth 1000000 in
set_option maxHeartbeats 100000000 in
theorem scRun_6tt : scRun 6 true true = true := by kernel_rfl
set_option maxRecDepth 1000000 in
set_option maxHeartbeats 100000000 in
theorem scRun_5tt : scRun 5 true true = true := by kernel_rfl
set_option maxRecDepth 1000000 in
set_option maxHeartbeats 100000000 in
theorem scRun_4tt : scRun 4 true true = true := by kernel_rfl
set_option maxRecDepth 1000000 in
set_option maxHeartbeats 100000000 in
theorem scRun_3tt : scRun 3 true true = true := by kernel_rfl
set_option maxRecDepth 1000000 in
set_option maxHeartbeats 100000000 in
theorem scRun_2tt : scRun 2 true true = true := by kernel_rfl
set_option maxRecDepth 1000000 in
set_option maxHeartbeats 100000000 in
theorem scRun_1tt : scRun 1 true true = true := by kernel_rfl
set_option maxRecDepth 1000000 in
set_option maxHeartbeats 100000000 in
theorem scRun_0tt : scRun 0 true true = true := by kernel_rfl
end Go.Proofs.Ytclhgnhbmlkomaa
