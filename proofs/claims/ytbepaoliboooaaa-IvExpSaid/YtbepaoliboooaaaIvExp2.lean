/-
  The bound of e to the x at each number that the law tries, part 2.
-/
import Derived.Test.YtbepaoliboooaaaIvExc
namespace Go.Proofs.Ytbepaoliboooaaa
set_option maxRecDepth 1000000 in
theorem chk_2 : chkN 100 (-1800) = true := by decide +kernel
set_option maxRecDepth 1000000 in
theorem chk_6 : chkN 100 (-1400) = true := by decide +kernel
set_option maxRecDepth 1000000 in
theorem chk_10 : chkN 100 (-1000) = true := by decide +kernel
set_option maxRecDepth 1000000 in
theorem chk_14 : chkN 100 (-600) = true := by decide +kernel
set_option maxRecDepth 1000000 in
theorem chk_18 : chkN 100 (-200) = true := by decide +kernel
set_option maxRecDepth 1000000 in
theorem chk_22 : chkN 100 (200) = true := by decide +kernel
set_option maxRecDepth 1000000 in
theorem chk_26 : chkN 100 (600) = true := by decide +kernel
set_option maxRecDepth 1000000 in
theorem chk_30 : chkN 100 (1000) = true := by decide +kernel
set_option maxRecDepth 1000000 in
theorem chk_34 : chkN 100 (1400) = true := by decide +kernel
set_option maxRecDepth 1000000 in
theorem chk_38 : chkN 100 (1800) = true := by decide +kernel
end Go.Proofs.Ytbepaoliboooaaa
