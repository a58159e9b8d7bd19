/-
  'IvRare': runs of it, part 1.
-/
import Derived.Test.YtbepaoliboooaaaRaa
namespace Go.Proofs.Ytbepaoliboooaaa
open Go.RowKit Ex
set_option maxRecDepth 1000000 in
set_option maxHeartbeats 100000000 in
theorem rare_1 : rareChk 1 = true := by kernel_rfl
set_option maxRecDepth 1000000 in
set_option maxHeartbeats 100000000 in
theorem rare_18442240474082181119 : rareChk 18442240474082181119 = true := by kernel_rfl
set_option maxRecDepth 1000000 in
set_option maxHeartbeats 100000000 in
theorem rare_9218868437227405311 : rareChk 9218868437227405311 = true := by kernel_rfl
end Go.Proofs.Ytbepaoliboooaaa
