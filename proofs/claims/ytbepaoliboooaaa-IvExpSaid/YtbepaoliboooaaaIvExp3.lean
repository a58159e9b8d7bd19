/-
  The bound of e to the x at each number that the law tries, part 3.
-/
import Derived.Test.YtbepaoliboooaaaIvExc
namespace Go.Proofs.Ytbepaoliboooaaa
set_option maxRecDepth 1000000 in
theorem chk_3 : chkN 100 (-1700) = true := by decide +kernel
set_option maxRecDepth 1000000 in
theorem chk_7 : chkN 100 (-1300) = true := by decide +kernel
set_option maxRecDepth 1000000 in
theorem chk_11 : chkN 100 (-900) = true := by decide +kernel
set_option maxRecDepth 1000000 in
theorem chk_15 : chkN 100 (-500) = true := by decide +kernel
set_option maxRecDepth 1000000 in
theorem chk_19 : chkN 100 (-100) = true := by decide +kernel
set_option maxRecDepth 1000000 in
theorem chk_23 : chkN 100 (300) = true := by decide +kernel
set_option maxRecDepth 1000000 in
theorem chk_27 : chkN 100 (700) = true := by decide +kernel
set_option maxRecDepth 1000000 in
theorem chk_31 : chkN 100 (1100) = true := by decide +kernel
set_option maxRecDepth 1000000 in
theorem chk_35 : chkN 100 (1500) = true := by decide +kernel
set_option maxRecDepth 1000000 in
theorem chk_39 : chkN 100 (1900) = true := by decide +kernel
end Go.Proofs.Ytbepaoliboooaaa
