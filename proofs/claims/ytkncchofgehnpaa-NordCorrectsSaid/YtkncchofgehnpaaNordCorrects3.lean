/-
  'NordCorrects': runs of it, part 3.
-/
import Derived.Test.YtkncchofgehnpaaNordCorrectst1
namespace Go.Proofs.Ytkncchofgehnpaa
open Go.RowKit Ex
set_option maxRecDepth 1000000 in
set_option maxHeartbeats 100000000 in
theorem nordCorrects_1_0_2 : lawRunE 5 10 200 [.i, .i, .q, .q] [(0, 4, 1), (1, 3, 0)] (lenL 3 2 3 ++ []) nordCorrectsNms1 = true := by kernel_rfl
set_option maxRecDepth 1000000 in
set_option maxHeartbeats 100000000 in
theorem nordCorrects_1_0_0 : lawRunE 5 10 200 [.i, .i, .q, .q] [(0, 4, 1), (1, 3, 0)] (lenL 3 0 3 ++ []) nordCorrectsNms1 = true := by kernel_rfl
set_option maxRecDepth 1000000 in
set_option maxHeartbeats 100000000 in
theorem nordCorrects_1_1_2 : lawRunE 5 10 200 [.i, .i, .q, .q] [(0, 4, 1), (1, 3, 1)] (lenL 3 2 3 ++ []) nordCorrectsNms1 = true := by kernel_rfl
set_option maxRecDepth 1000000 in
set_option maxHeartbeats 100000000 in
theorem nordCorrects_1_1_0 : lawRunE 5 10 200 [.i, .i, .q, .q] [(0, 4, 1), (1, 3, 1)] (lenL 3 0 3 ++ []) nordCorrectsNms1 = true := by kernel_rfl
set_option maxRecDepth 1000000 in
set_option maxHeartbeats 100000000 in
theorem nordCorrects_1_2_2 : lawRunE 5 10 200 [.i, .i, .q, .q] [(0, 4, 1), (1, 3, 2)] (lenL 3 2 3 ++ []) nordCorrectsNms1 = true := by kernel_rfl
set_option maxRecDepth 1000000 in
set_option maxHeartbeats 100000000 in
theorem nordCorrects_1_2_0 : lawRunE 5 10 200 [.i, .i, .q, .q] [(0, 4, 1), (1, 3, 2)] (lenL 3 0 3 ++ []) nordCorrectsNms1 = true := by kernel_rfl
end Go.Proofs.Ytkncchofgehnpaa
