/-
  'IvAll': runs of it, part 0.
-/
import Derived.Test.YtbepaoliboooaaaIvAlla
namespace Go.Proofs.Ytbepaoliboooaaa
open Go.RowKit Ex
set_option maxRecDepth 1000000 in
set_option maxHeartbeats 100000000 in
theorem all_tttn : lawRunA (gOf true true true false) = true := by kernel_rfl
set_option maxRecDepth 1000000 in
set_option maxHeartbeats 100000000 in
theorem all_tttf : lawRunA ((gOf true true true true).add c4 false) = true := by kernel_rfl
set_option maxRecDepth 1000000 in
set_option maxHeartbeats 100000000 in
theorem all_ttft : lawRunA ((gOf true true false true).add c4 true) = true := by kernel_rfl
set_option maxRecDepth 1000000 in
set_option maxHeartbeats 100000000 in
theorem all_tftn : lawRunA (gOf true false true false) = true := by kernel_rfl
set_option maxRecDepth 1000000 in
set_option maxHeartbeats 100000000 in
theorem all_tftf : lawRunA ((gOf true false true true).add c4 false) = true := by kernel_rfl
set_option maxRecDepth 1000000 in
set_option maxHeartbeats 100000000 in
theorem all_tfft : lawRunA ((gOf true false false true).add c4 true) = true := by kernel_rfl
set_option maxRecDepth 1000000 in
set_option maxHeartbeats 100000000 in
theorem all_fttn : lawRunA (gOf false true true false) = true := by kernel_rfl
set_option maxRecDepth 1000000 in
set_option maxHeartbeats 100000000 in
theorem all_fttf : lawRunA ((gOf false true true true).add c4 false) = true := by kernel_rfl
set_option maxRecDepth 1000000 in
set_option maxHeartbeats 100000000 in
theorem all_ftft : lawRunA ((gOf false true false true).add c4 true) = true := by kernel_rfl
set_option maxRecDepth 1000000 in
set_option maxHeartbeats 100000000 in
theorem all_fftn : lawRunA (gOf false false true false) = true := by kernel_rfl
set_option maxRecDepth 1000000 in
set_option maxHeartbeats 100000000 in
theorem all_fftf : lawRunA ((gOf false false true true).add c4 false) = true := by kernel_rfl
set_option maxRecDepth 1000000 in
set_option maxHeartbeats 100000000 in
theorem all_ffft : lawRunA ((gOf false false false true).add c4 true) = true := by kernel_rfl
end Go.Proofs.Ytbepaoliboooaaa
