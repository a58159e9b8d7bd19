/-
  'IvAll': runs of it, part 1.
-/
import Derived.Test.YtbepaoliboooaaaIvAlla
namespace Go.Proofs.Ytbepaoliboooaaa
open Go.RowKit Ex
set_option maxRecDepth 1000000 in
set_option maxHeartbeats 100000000 in
theorem all_tttt : lawRunA ((gOf true true true true).add c4 true) = true := by kernel_rfl
set_option maxRecDepth 1000000 in
set_option maxHeartbeats 100000000 in
theorem all_ttfn : lawRunA (gOf true true false false) = true := by kernel_rfl
set_option maxRecDepth 1000000 in
set_option maxHeartbeats 100000000 in
theorem all_ttff : lawRunA ((gOf true true false true).add c4 false) = true := by kernel_rfl
set_option maxRecDepth 1000000 in
set_option maxHeartbeats 100000000 in
theorem all_tftt : lawRunA ((gOf true false true true).add c4 true) = true := by kernel_rfl
set_option maxRecDepth 1000000 in
set_option maxHeartbeats 100000000 in
theorem all_tffn : lawRunA (gOf true false false false) = true := by kernel_rfl
set_option maxRecDepth 1000000 in
set_option maxHeartbeats 100000000 in
theorem all_tfff : lawRunA ((gOf true false false true).add c4 false) = true := by kernel_rfl
set_option maxRecDepth 1000000 in
set_option maxHeartbeats 100000000 in
theorem all_fttt : lawRunA ((gOf false true true true).add c4 true) = true := by kernel_rfl
set_option maxRecDepth 1000000 in
set_option maxHeartbeats 100000000 in
theorem all_ftfn : lawRunA (gOf false true false false) = true := by kernel_rfl
set_option maxRecDepth 1000000 in
set_option maxHeartbeats 100000000 in
theorem all_ftff : lawRunA ((gOf false true false true).add c4 false) = true := by kernel_rfl
set_option maxRecDepth 1000000 in
set_option maxHeartbeats 100000000 in
theorem all_fftt : lawRunA ((gOf false false true true).add c4 true) = true := by kernel_rfl
set_option maxRecDepth 1000000 in
set_option maxHeartbeats 100000000 in
theorem all_fffn : lawRunA (gOf false false false false) = true := by kernel_rfl
set_option maxRecDepth 1000000 in
set_option maxHeartbeats 100000000 in
theorem all_ffff : lawRunA ((gOf false false false true).add c4 false) = true := by kernel_rfl
end Go.Proofs.Ytbepaoliboooaaa
