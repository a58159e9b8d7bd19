/-
  'ModelWhole': runs of it, part 0.
-/
import Derived.Test.YtmmpgglbeaofkaaBI5
namespace Go.Proofs.Ytmmpgglbeaofkaa
open Go.RowKit Ex
set_option maxRecDepth 1000000 in
set_option maxHeartbeats 100000000 in
theorem modelWhole_zzii_x : lawRun 6 10 200 [.z, .z, .i, .i] [] = true := by kernel_rfl
set_option maxRecDepth 1000000 in
set_option maxHeartbeats 100000000 in
theorem modelWhole_zqii_x : lawRun 6 10 200 [.z, .q, .i, .i] [] = true := by kernel_rfl
set_option maxRecDepth 1000000 in
set_option maxHeartbeats 100000000 in
theorem modelWhole_qzii_x : lawRun 6 10 200 [.q, .z, .i, .i] [] = true := by kernel_rfl
set_option maxRecDepth 1000000 in
set_option maxHeartbeats 100000000 in
theorem modelWhole_qqii_x : lawRun 6 10 200 [.q, .q, .i, .i] [] = true := by kernel_rfl
end Go.Proofs.Ytmmpgglbeaofkaa
