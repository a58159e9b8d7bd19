/-
  'LinLeft': what names stand for, where the first rest is 1.
-/
import Derived.Test.YtainodgbcpkipaaM6b
namespace Go.Proofs.Ytainodgbcpkipaa
open Go.RowKit Ex
def le1_0 : E := (.i2f (.ib .sub .i64 (.ai 9 0 (.ci (.ti (.ic .lss (.li 0) (.vl 0)) (.at 0 0) (.li 0)) (.ci (.li 41) .n0))) (.li 20)))
def le1_1 : E := (.tf (.ic .lss (.li 0) (.vl 1)) (.i2f (.ib .sub .i64 (.ai 9 0 (.ci (.at 1 0) (.ci (.li 21) .n0))) (.li 10))) (.lf 0))
def le1_2 : E := (.i2f (.ib .sub .i64 (.ai 9 0 (.ci (.ti (.ic .lss (.li 1) (.vl 0)) (.at 0 1) (.li 1)) (.ci (.li 41) .n0))) (.li 20)))
def le1_3 : E := (.tf (.ic .lss (.li 1) (.vl 1)) (.i2f (.ib .sub .i64 (.ai 9 0 (.ci (.at 1 1) (.ci (.li 21) .n0))) (.li 10))) (.lf 0))
def le1_4 : E := (.fb .add (.fb .add (.lf 0) (.fb .mul le1_0 le1_1)) (.fb .mul le1_2 le1_3))
def le1_5 : E := (.i2f (.ib .sub .i64 (.ai 9 0 (.ci (.ti (.ic .lss (.li 2) (.vl 0)) (.at 0 2) (.li 1)) (.ci (.li 41) .n0))) (.li 20)))
def le1_6 : E := (.i2f (.ib .sub .i64 (.ai 9 0 (.ci (.ti (.ic .lss (.li 3) (.vl 0)) (.at 0 3) (.li 2)) (.ci (.li 41) .n0))) (.li 20)))
def le1_7 : E := (.fb .add (.fb .add (.lf 0) (.fb .mul le1_5 le1_1)) (.fb .mul le1_6 le1_3))
def le1_8 : E := (.fb .add le1_4 (.lf 4613937818241073152))
def lN1 : Nms := [(48819534, 100, (.af 22 0 (.cf le1_0 (.cf le1_0 (.cf le1_1 (.cf le1_1 .n0)))))),
  (49819537, 101, (.af 22 1 (.cf le1_0 (.cf le1_0 (.cf le1_1 (.cf le1_1 .n0)))))),
  (1483199324, 102, (.af 21 0 (.cf le1_4 (.cf le1_4 (.cf (.vf 100) (.cf (.vf 101) .n0)))))),
  (1484199327, 103, (.af 21 1 (.cf le1_4 (.cf le1_4 (.cf (.vf 100) (.cf (.vf 101) .n0)))))),
  (577134966, 104, (.af 22 0 (.cf le1_2 (.cf le1_2 (.cf le1_3 (.cf le1_3 .n0)))))),
  (578134969, 105, (.af 22 1 (.cf le1_2 (.cf le1_2 (.cf le1_3 (.cf le1_3 .n0)))))),
  (4208667135, 106, (.af 21 0 (.cf (.vf 102) (.cf (.vf 103) (.cf (.vf 104) (.cf (.vf 105) .n0)))))),
  (4209667138, 107, (.af 21 1 (.cf (.vf 102) (.cf (.vf 103) (.cf (.vf 104) (.cf (.vf 105) .n0)))))),
  (3494986918, 108, (.af 22 0 (.cf le1_5 (.cf le1_5 (.cf le1_1 (.cf le1_1 .n0)))))),
  (3495986921, 109, (.af 22 1 (.cf le1_5 (.cf le1_5 (.cf le1_1 (.cf le1_1 .n0)))))),
  (1515312497, 110, (.af 21 0 (.cf le1_7 (.cf le1_7 (.cf (.vf 108) (.cf (.vf 109) .n0)))))),
  (1516312500, 111, (.af 21 1 (.cf le1_7 (.cf le1_7 (.cf (.vf 108) (.cf (.vf 109) .n0)))))),
  (4023302350, 112, (.af 22 0 (.cf le1_6 (.cf le1_6 (.cf le1_3 (.cf le1_3 .n0)))))),
  (4024302353, 113, (.af 22 1 (.cf le1_6 (.cf le1_6 (.cf le1_3 (.cf le1_3 .n0)))))),
  (4240667231, 114, (.af 21 0 (.cf (.vf 110) (.cf (.vf 111) (.cf (.vf 112) (.cf (.vf 113) .n0)))))),
  (4241667234, 115, (.af 21 1 (.cf (.vf 110) (.cf (.vf 111) (.cf (.vf 112) (.cf (.vf 113) .n0)))))),
  (3822307681, 116, (.af 21 0 (.cf le1_8 (.cf le1_8 (.cf (.vf 100) (.cf (.vf 101) .n0)))))),
  (3823307684, 117, (.af 21 1 (.cf le1_8 (.cf le1_8 (.cf (.vf 100) (.cf (.vf 101) .n0)))))),
  (4236667219, 118, (.af 21 0 (.cf (.vf 116) (.cf (.vf 117) (.cf (.vf 104) (.cf (.vf 105) .n0)))))),
  (4237667222, 119, (.af 21 1 (.cf (.vf 116) (.cf (.vf 117) (.cf (.vf 104) (.cf (.vf 105) .n0))))))]
set_option maxRecDepth 1000000 in
set_option maxHeartbeats 100000000 in
theorem lG1 : tabGood 100 lN1 = true := by kernel_rfl
end Go.Proofs.Ytainodgbcpkipaa
