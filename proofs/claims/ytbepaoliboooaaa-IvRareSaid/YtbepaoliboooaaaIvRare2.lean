/-
  'IvRare': runs of it, part 2.
-/
import Derived.Test.YtbepaoliboooaaaRaa
namespace Go.Proofs.Ytbepaoliboooaaa
open Go.RowKit Ex
set_option maxRecDepth 1000000 in
set_option maxHeartbeats 100000000 in
theorem rare_4607182418800017408 : rareChk 4607182418800017408 = true := by kernel_rfl
set_option maxRecDepth 1000000 in
set_option maxHeartbeats 100000000 in
theorem rare_4602678819172646912 : rareChk 4602678819172646912 = true := by kernel_rfl
set_option maxRecDepth 1000000 in
set_option maxHeartbeats 100000000 in
theorem rare_13835058055282163712 : rareChk 13835058055282163712 = true := by kernel_rfl
end Go.Proofs.Ytbepaoliboooaaa
