/-
  'NordCorrects': runs of it, part 3.
-/
import Derived.Test.YtkncchofgehnpaaNordCorrectst3
namespace Go.Proofs.Ytkncchofgehnpaa
open Go.RowKit Ex
set_option maxRecDepth 1000000 in
set_option maxHeartbeats 100000000 in
theorem nordCorrects_3_0_x : lawRunE 5 10 200 [.i, .i, .q, .q] [(0, 4, 3), (1, 3, 0)] ([]) nordCorrectsNms3 = true := by kernel_rfl
set_option maxRecDepth 1000000 in
set_option maxHeartbeats 100000000 in
theorem nordCorrects_3_1_x : lawRunE 5 10 200 [.i, .i, .q, .q] [(0, 4, 3), (1, 3, 1)] ([]) nordCorrectsNms3 = true := by kernel_rfl
set_option maxRecDepth 1000000 in
set_option maxHeartbeats 100000000 in
theorem nordCorrects_3_2_x : lawRunE 5 10 200 [.i, .i, .q, .q] [(0, 4, 3), (1, 3, 2)] ([]) nordCorrectsNms3 = true := by kernel_rfl
end Go.Proofs.Ytkncchofgehnpaa
