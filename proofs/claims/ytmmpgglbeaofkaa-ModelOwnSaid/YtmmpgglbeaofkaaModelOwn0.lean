/-
  'ModelOwn': runs of it, part 0.
-/
import Derived.Test.YtmmpgglbeaofkaaB5
namespace Go.Proofs.Ytmmpgglbeaofkaa
open Go.RowKit Ex
set_option maxRecDepth 1000000 in
set_option maxHeartbeats 100000000 in
theorem modelOwn_z_x : lawRun 13 10 200 [.z] [] = true := by kernel_rfl
set_option maxRecDepth 1000000 in
set_option maxHeartbeats 100000000 in
theorem modelOwn_q_x : lawRun 13 10 200 [.q] [] = true := by kernel_rfl
end Go.Proofs.Ytmmpgglbeaofkaa
