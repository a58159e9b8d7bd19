/-
  'NordCorrects': runs of it, part 6.
-/
import Derived.Test.YtkncchofgehnpaaNordCorrectst3
namespace Go.Proofs.Ytkncchofgehnpaa
open Go.RowKit Ex
set_option maxRecDepth 1000000 in
set_option maxHeartbeats 100000000 in
theorem nordCorrects_3_0_3 : lawRunE 5 10 200 [.i, .i, .q, .q] [(0, 4, 3), (1, 3, 0)] (lenL 3 3 3 ++ []) nordCorrectsNms3 = true := by kernel_rfl
set_option maxRecDepth 1000000 in
set_option maxHeartbeats 100000000 in
theorem nordCorrects_3_0_1 : lawRunE 5 10 200 [.i, .i, .q, .q] [(0, 4, 3), (1, 3, 0)] (lenL 3 1 3 ++ []) nordCorrectsNms3 = true := by kernel_rfl
set_option maxRecDepth 1000000 in
set_option maxHeartbeats 100000000 in
theorem nordCorrects_3_1_3 : lawRunE 5 10 200 [.i, .i, .q, .q] [(0, 4, 3), (1, 3, 1)] (lenL 3 3 3 ++ []) nordCorrectsNms3 = true := by kernel_rfl
set_option maxRecDepth 1000000 in
set_option maxHeartbeats 100000000 in
theorem nordCorrects_3_1_1 : lawRunE 5 10 200 [.i, .i, .q, .q] [(0, 4, 3), (1, 3, 1)] (lenL 3 1 3 ++ []) nordCorrectsNms3 = true := by kernel_rfl
set_option maxRecDepth 1000000 in
set_option maxHeartbeats 100000000 in
theorem nordCorrects_3_2_3 : lawRunE 5 10 200 [.i, .i, .q, .q] [(0, 4, 3), (1, 3, 2)] (lenL 3 3 3 ++ []) nordCorrectsNms3 = true := by kernel_rfl
set_option maxRecDepth 1000000 in
set_option maxHeartbeats 100000000 in
theorem nordCorrects_3_2_1 : lawRunE 5 10 200 [.i, .i, .q, .q] [(0, 4, 3), (1, 3, 2)] (lenL 3 1 3 ++ []) nordCorrectsNms3 = true := by kernel_rfl
end Go.Proofs.Ytkncchofgehnpaa
