/-
  'TapeOwn': runs of it, part 5.
-/
import Derived.Test.YticbgaflhiokgaaTapeOwnt2
namespace Go.Proofs.Yticbgaflhiokgaa
open Go.RowKit Ex
set_option maxRecDepth 1000000 in
set_option maxHeartbeats 100000000 in
theorem tapeOwn_2_7 : lawRunT 10 10 200 [.i, .q, .q, .i] [(0, 3, 2)] (lenL 1 7 8 ++ []) tapeOwnNms2 = true := by kernel_rfl
set_option maxRecDepth 1000000 in
set_option maxHeartbeats 100000000 in
theorem tapeOwn_2_5 : lawRunT 10 10 200 [.i, .q, .q, .i] [(0, 3, 2)] (lenL 1 5 8 ++ []) tapeOwnNms2 = true := by kernel_rfl
set_option maxRecDepth 1000000 in
set_option maxHeartbeats 100000000 in
theorem tapeOwn_2_3 : lawRunT 10 10 200 [.i, .q, .q, .i] [(0, 3, 2)] (lenL 1 3 8 ++ []) tapeOwnNms2 = true := by kernel_rfl
set_option maxRecDepth 1000000 in
set_option maxHeartbeats 100000000 in
theorem tapeOwn_2_1 : lawRunT 10 10 200 [.i, .q, .q, .i] [(0, 3, 2)] (lenL 1 1 8 ++ []) tapeOwnNms2 = true := by kernel_rfl
end Go.Proofs.Yticbgaflhiokgaa
