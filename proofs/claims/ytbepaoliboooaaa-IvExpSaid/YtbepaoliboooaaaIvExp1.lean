/-
  The bound of e to the x at each number that the law tries, part 1.
-/
import Derived.Test.YtbepaoliboooaaaIvExc
namespace Go.Proofs.Ytbepaoliboooaaa
set_option maxRecDepth 1000000 in
theorem chk_1 : chkN 100 (-1900) = true := by decide +kernel
set_option maxRecDepth 1000000 in
theorem chk_5 : chkN 100 (-1500) = true := by decide +kernel
set_option maxRecDepth 1000000 in
theorem chk_9 : chkN 100 (-1100) = true := by decide +kernel
set_option maxRecDepth 1000000 in
theorem chk_13 : chkN 100 (-700) = true := by decide +kernel
set_option maxRecDepth 1000000 in
theorem chk_17 : chkN 100 (-300) = true := by decide +kernel
set_option maxRecDepth 1000000 in
theorem chk_21 : chkN 100 (100) = true := by decide +kernel
set_option maxRecDepth 1000000 in
theorem chk_25 : chkN 100 (500) = true := by decide +kernel
set_option maxRecDepth 1000000 in
theorem chk_29 : chkN 100 (900) = true := by decide +kernel
set_option maxRecDepth 1000000 in
theorem chk_33 : chkN 100 (1300) = true := by decide +kernel
set_option maxRecDepth 1000000 in
theorem chk_37 : chkN 100 (1700) = true := by decide +kernel
end Go.Proofs.Ytbepaoliboooaaa
