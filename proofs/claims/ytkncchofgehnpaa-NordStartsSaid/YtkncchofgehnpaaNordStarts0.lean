/-
  'NordStarts': runs of it, part 0.
-/
import Derived.Test.YtkncchofgehnpaaNordStartst0
namespace Go.Proofs.Ytkncchofgehnpaa
open Go.RowKit Ex
set_option maxRecDepth 1000000 in
set_option maxHeartbeats 100000000 in
theorem nordStarts_0_8 : lawRunT 7 10 200 [.i, .q, .q, .i] [(0, 3, 0)] (lenL 1 8 8 ++ []) nordStartsNms0 = true := by kernel_rfl
set_option maxRecDepth 1000000 in
set_option maxHeartbeats 100000000 in
theorem nordStarts_0_7 : lawRunT 7 10 200 [.i, .q, .q, .i] [(0, 3, 0)] (lenL 1 7 8 ++ []) nordStartsNms0 = true := by kernel_rfl
set_option maxRecDepth 1000000 in
set_option maxHeartbeats 100000000 in
theorem nordStarts_0_6 : lawRunT 7 10 200 [.i, .q, .q, .i] [(0, 3, 0)] (lenL 1 6 8 ++ []) nordStartsNms0 = true := by kernel_rfl
set_option maxRecDepth 1000000 in
set_option maxHeartbeats 100000000 in
theorem nordStarts_0_5 : lawRunT 7 10 200 [.i, .q, .q, .i] [(0, 3, 0)] (lenL 1 5 8 ++ []) nordStartsNms0 = true := by kernel_rfl
set_option maxRecDepth 1000000 in
set_option maxHeartbeats 100000000 in
theorem nordStarts_0_4 : lawRunT 7 10 200 [.i, .q, .q, .i] [(0, 3, 0)] (lenL 1 4 8 ++ []) nordStartsNms0 = true := by kernel_rfl
set_option maxRecDepth 1000000 in
set_option maxHeartbeats 100000000 in
theorem nordStarts_0_3 : lawRunT 7 10 200 [.i, .q, .q, .i] [(0, 3, 0)] (lenL 1 3 8 ++ []) nordStartsNms0 = true := by kernel_rfl
set_option maxRecDepth 1000000 in
set_option maxHeartbeats 100000000 in
theorem nordStarts_0_2 : lawRunT 7 10 200 [.i, .q, .q, .i] [(0, 3, 0)] (lenL 1 2 8 ++ []) nordStartsNms0 = true := by kernel_rfl
set_option maxRecDepth 1000000 in
set_option maxHeartbeats 100000000 in
theorem nordStarts_0_1 : lawRunT 7 10 200 [.i, .q, .q, .i] [(0, 3, 0)] (lenL 1 1 8 ++ []) nordStartsNms0 = true := by kernel_rfl
set_option maxRecDepth 1000000 in
set_option maxHeartbeats 100000000 in
theorem nordStarts_0_0 : lawRunT 7 10 200 [.i, .q, .q, .i] [(0, 3, 0)] (lenL 1 0 8 ++ []) nordStartsNms0 = true := by kernel_rfl
end Go.Proofs.Ytkncchofgehnpaa
