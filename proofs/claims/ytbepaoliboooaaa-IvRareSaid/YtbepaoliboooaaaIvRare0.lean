/-
  'IvRare': runs of it, part 0.
-/
import Derived.Test.YtbepaoliboooaaaRaa
namespace Go.Proofs.Ytbepaoliboooaaa
open Go.RowKit Ex
set_option maxRecDepth 1000000 in
set_option maxHeartbeats 100000000 in
theorem rare_nanB : rareChk nanB = true := by kernel_rfl
set_option maxRecDepth 1000000 in
set_option maxHeartbeats 100000000 in
theorem rare_9218868437227405312 : rareChk 9218868437227405312 = true := by kernel_rfl
set_option maxRecDepth 1000000 in
set_option maxHeartbeats 100000000 in
theorem rare_18442240474082181120 : rareChk 18442240474082181120 = true := by kernel_rfl
set_option maxRecDepth 1000000 in
set_option maxHeartbeats 100000000 in
theorem rare_0 : rareChk 0 = true := by kernel_rfl
end Go.Proofs.Ytbepaoliboooaaa
