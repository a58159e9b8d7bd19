/-
  'NordCorrects': runs of it, part 2.
-/
import Derived.Test.YtkncchofgehnpaaNordCorrectst2
namespace Go.Proofs.Ytkncchofgehnpaa
open Go.RowKit Ex
set_option maxRecDepth 1000000 in
set_option maxHeartbeats 100000000 in
theorem nordCorrects_2_0_x : lawRunE 5 10 200 [.i, .i, .q, .q] [(0, 4, 2), (1, 3, 0)] ([]) nordCorrectsNms2 = true := by kernel_rfl
set_option maxRecDepth 1000000 in
set_option maxHeartbeats 100000000 in
theorem nordCorrects_2_1_x : lawRunE 5 10 200 [.i, .i, .q, .q] [(0, 4, 2), (1, 3, 1)] ([]) nordCorrectsNms2 = true := by kernel_rfl
set_option maxRecDepth 1000000 in
set_option maxHeartbeats 100000000 in
theorem nordCorrects_2_2_x : lawRunE 5 10 200 [.i, .i, .q, .q] [(0, 4, 2), (1, 3, 2)] ([]) nordCorrectsNms2 = true := by kernel_rfl
end Go.Proofs.Ytkncchofgehnpaa
