/-
  'NordCorrects': runs of it, part 1.
-/
import Derived.Test.YtkncchofgehnpaaNordCorrectst0
namespace Go.Proofs.Ytkncchofgehnpaa
open Go.RowKit Ex
set_option maxRecDepth 1000000 in
set_option maxHeartbeats 100000000 in
theorem nordCorrects_0_0_2 : lawRunE 5 10 200 [.i, .i, .q, .q] [(0, 4, 0), (1, 3, 0)] (lenL 3 2 3 ++ []) nordCorrectsNms0 = true := by kernel_rfl
set_option maxRecDepth 1000000 in
set_option maxHeartbeats 100000000 in
theorem nordCorrects_0_0_0 : lawRunE 5 10 200 [.i, .i, .q, .q] [(0, 4, 0), (1, 3, 0)] (lenL 3 0 3 ++ []) nordCorrectsNms0 = true := by kernel_rfl
set_option maxRecDepth 1000000 in
set_option maxHeartbeats 100000000 in
theorem nordCorrects_0_1_2 : lawRunE 5 10 200 [.i, .i, .q, .q] [(0, 4, 0), (1, 3, 1)] (lenL 3 2 3 ++ []) nordCorrectsNms0 = true := by kernel_rfl
set_option maxRecDepth 1000000 in
set_option maxHeartbeats 100000000 in
theorem nordCorrects_0_1_0 : lawRunE 5 10 200 [.i, .i, .q, .q] [(0, 4, 0), (1, 3, 1)] (lenL 3 0 3 ++ []) nordCorrectsNms0 = true := by kernel_rfl
set_option maxRecDepth 1000000 in
set_option maxHeartbeats 100000000 in
theorem nordCorrects_0_2_2 : lawRunE 5 10 200 [.i, .i, .q, .q] [(0, 4, 0), (1, 3, 2)] (lenL 3 2 3 ++ []) nordCorrectsNms0 = true := by kernel_rfl
set_option maxRecDepth 1000000 in
set_option maxHeartbeats 100000000 in
theorem nordCorrects_0_2_0 : lawRunE 5 10 200 [.i, .i, .q, .q] [(0, 4, 0), (1, 3, 2)] (lenL 3 0 3 ++ []) nordCorrectsNms0 = true := by kernel_rfl
end Go.Proofs.Ytkncchofgehnpaa
