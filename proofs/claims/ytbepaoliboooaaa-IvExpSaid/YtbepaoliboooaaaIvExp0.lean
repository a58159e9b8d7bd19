/-
  The bound of e to the x at each number that the law tries, part 0.
-/
import Derived.Test.YtbepaoliboooaaaIvExc
namespace Go.Proofs.Ytbepaoliboooaaa
set_option maxRecDepth 1000000 in
theorem chk_0 : chkN 100 (-2000) = true := by decide +kernel
set_option maxRecDepth 1000000 in
theorem chk_4 : chkN 100 (-1600) = true := by decide +kernel
set_option maxRecDepth 1000000 in
theorem chk_8 : chkN 100 (-1200) = true := by decide +kernel
set_option maxRecDepth 1000000 in
theorem chk_12 : chkN 100 (-800) = true := by decide +kernel
set_option maxRecDepth 1000000 in
theorem chk_16 : chkN 100 (-400) = true := by decide +kernel
set_option maxRecDepth 1000000 in
theorem chk_20 : chkN 100 (0) = true := by decide +kernel
set_option maxRecDepth 1000000 in
theorem chk_24 : chkN 100 (400) = true := by decide +kernel
set_option maxRecDepth 1000000 in
theorem chk_28 : chkN 100 (800) = true := by decide +kernel
set_option maxRecDepth 1000000 in
theorem chk_32 : chkN 100 (1200) = true := by decide +kernel
set_option maxRecDepth 1000000 in
theorem chk_36 : chkN 100 (1600) = true := by decide +kernel
end Go.Proofs.Ytbepaoliboooaaa
