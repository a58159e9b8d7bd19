/-
  'TapeOwn': runs of it, part 3.
-/
import Derived.Test.YticbgaflhiokgaaTapeOwnt1
namespace Go.Proofs.Yticbgaflhiokgaa
open Go.RowKit Ex
set_option maxRecDepth 1000000 in
set_option maxHeartbeats 100000000 in
theorem tapeOwn_1_7 : lawRunT 10 10 200 [.i, .q, .q, .i] [(0, 3, 1)] (lenL 1 7 8 ++ []) tapeOwnNms1 = true := by kernel_rfl
set_option maxRecDepth 1000000 in
set_option maxHeartbeats 100000000 in
theorem tapeOwn_1_5 : lawRunT 10 10 200 [.i, .q, .q, .i] [(0, 3, 1)] (lenL 1 5 8 ++ []) tapeOwnNms1 = true := by kernel_rfl
set_option maxRecDepth 1000000 in
set_option maxHeartbeats 100000000 in
theorem tapeOwn_1_3 : lawRunT 10 10 200 [.i, .q, .q, .i] [(0, 3, 1)] (lenL 1 3 8 ++ []) tapeOwnNms1 = true := by kernel_rfl
set_option maxRecDepth 1000000 in
set_option maxHeartbeats 100000000 in
theorem tapeOwn_1_1 : lawRunT 10 10 200 [.i, .q, .q, .i] [(0, 3, 1)] (lenL 1 1 8 ++ []) tapeOwnNms1 = true := by kernel_rfl
end Go.Proofs.Yticbgaflhiokgaa
