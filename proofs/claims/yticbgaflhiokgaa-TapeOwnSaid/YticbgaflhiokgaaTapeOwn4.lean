/-
  'TapeOwn': runs of it, part 4.
-/
import Derived.Test.YticbgaflhiokgaaTapeOwnt2
namespace Go.Proofs.Yticbgaflhiokgaa
open Go.RowKit Ex
set_option maxRecDepth 1000000 in
set_option maxHeartbeats 100000000 in
theorem tapeOwn_2_8 : lawRunT 10 10 200 [.i, .q, .q, .i] [(0, 3, 2)] (lenL 1 8 8 ++ []) tapeOwnNms2 = true := by kernel_rfl
set_option maxRecDepth 1000000 in
set_option maxHeartbeats 100000000 in
theorem tapeOwn_2_6 : lawRunT 10 10 200 [.i, .q, .q, .i] [(0, 3, 2)] (lenL 1 6 8 ++ []) tapeOwnNms2 = true := by kernel_rfl
set_option maxRecDepth 1000000 in
set_option maxHeartbeats 100000000 in
theorem tapeOwn_2_4 : lawRunT 10 10 200 [.i, .q, .q, .i] [(0, 3, 2)] (lenL 1 4 8 ++ []) tapeOwnNms2 = true := by kernel_rfl
set_option maxRecDepth 1000000 in
set_option maxHeartbeats 100000000 in
theorem tapeOwn_2_2 : lawRunT 10 10 200 [.i, .q, .q, .i] [(0, 3, 2)] (lenL 1 2 8 ++ []) tapeOwnNms2 = true := by kernel_rfl
set_option maxRecDepth 1000000 in
set_option maxHeartbeats 100000000 in
theorem tapeOwn_2_0 : lawRunT 10 10 200 [.i, .q, .q, .i] [(0, 3, 2)] (lenL 1 0 8 ++ []) tapeOwnNms2 = true := by kernel_rfl
end Go.Proofs.Yticbgaflhiokgaa
