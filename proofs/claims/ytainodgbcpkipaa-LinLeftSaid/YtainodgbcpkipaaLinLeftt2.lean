/-
  'LinLeft': what names stand for, where the first rest is 2.
-/
import Derived.Test.YtainodgbcpkipaaM6b
namespace Go.Proofs.Ytainodgbcpkipaa
open Go.RowKit Ex
def le2_0 : E := (.i2f (.ib .sub .i64 (.ai 9 0 (.ci (.ti (.ic .lss (.li 0) (.vl 0)) (.at 0 0) (.li 0)) (.ci (.li 41) .n0))) (.li 20)))
def le2_1 : E := (.tf (.ic .lss (.li 0) (.vl 1)) (.i2f (.ib .sub .i64 (.ai 9 0 (.ci (.at 1 0) (.ci (.li 21) .n0))) (.li 10))) (.lf 0))
def le2_2 : E := (.i2f (.ib .sub .i64 (.ai 9 0 (.ci (.ti (.ic .lss (.li 1) (.vl 0)) (.at 0 1) (.li 1)) (.ci (.li 41) .n0))) (.li 20)))
def le2_3 : E := (.tf (.ic .lss (.li 1) (.vl 1)) (.i2f (.ib .sub .i64 (.ai 9 0 (.ci (.at 1 1) (.ci (.li 21) .n0))) (.li 10))) (.lf 0))
def le2_4 : E := (.i2f (.ib .sub .i64 (.ai 9 0 (.ci (.ti (.ic .lss (.li 2) (.vl 0)) (.at 0 2) (.li 2)) (.ci (.li 41) .n0))) (.li 20)))
def le2_5 : E := (.tf (.ic .lss (.li 2) (.vl 1)) (.i2f (.ib .sub .i64 (.ai 9 0 (.ci (.at 1 2) (.ci (.li 21) .n0))) (.li 10))) (.lf 0))
def le2_6 : E := (.fb .add (.fb .add (.fb .add (.lf 0) (.fb .mul le2_0 le2_1)) (.fb .mul le2_2 le2_3)) (.fb .mul le2_4 le2_5))
def le2_7 : E := (.i2f (.ib .sub .i64 (.ai 9 0 (.ci (.ti (.ic .lss (.li 3) (.vl 0)) (.at 0 3) (.li 1)) (.ci (.li 41) .n0))) (.li 20)))
def le2_8 : E := (.i2f (.ib .sub .i64 (.ai 9 0 (.ci (.ti (.ic .lss (.li 4) (.vl 0)) (.at 0 4) (.li 2)) (.ci (.li 41) .n0))) (.li 20)))
def le2_9 : E := (.i2f (.ib .sub .i64 (.ai 9 0 (.ci (.ti (.ic .lss (.li 5) (.vl 0)) (.at 0 5) (.li 3)) (.ci (.li 41) .n0))) (.li 20)))
def le2_10 : E := (.fb .add (.fb .add (.fb .add (.lf 0) (.fb .mul le2_7 le2_1)) (.fb .mul le2_8 le2_3)) (.fb .mul le2_9 le2_5))
def le2_11 : E := (.i2f (.ib .sub .i64 (.ai 9 0 (.ci (.ti (.ic .lss (.li 6) (.vl 0)) (.at 0 6) (.li 2)) (.ci (.li 41) .n0))) (.li 20)))
def le2_12 : E := (.i2f (.ib .sub .i64 (.ai 9 0 (.ci (.ti (.ic .lss (.li 7) (.vl 0)) (.at 0 7) (.li 3)) (.ci (.li 41) .n0))) (.li 20)))
def le2_13 : E := (.i2f (.ib .sub .i64 (.ai 9 0 (.ci (.ti (.ic .lss (.li 8) (.vl 0)) (.at 0 8) (.li 4)) (.ci (.li 41) .n0))) (.li 20)))
def le2_14 : E := (.fb .add (.fb .add (.fb .add (.lf 0) (.fb .mul le2_11 le2_1)) (.fb .mul le2_12 le2_3)) (.fb .mul le2_13 le2_5))
def le2_15 : E := (.fb .add le2_6 (.lf 4613937818241073152))
def lN2 : Nms := [(48819534, 100, (.af 22 0 (.cf le2_0 (.cf le2_0 (.cf le2_1 (.cf le2_1 .n0)))))),
  (49819537, 101, (.af 22 1 (.cf le2_0 (.cf le2_0 (.cf le2_1 (.cf le2_1 .n0)))))),
  (1443732760, 102, (.af 21 0 (.cf le2_6 (.cf le2_6 (.cf (.vf 100) (.cf (.vf 101) .n0)))))),
  (1444732763, 103, (.af 21 1 (.cf le2_6 (.cf le2_6 (.cf (.vf 100) (.cf (.vf 101) .n0)))))),
  (577134966, 104, (.af 22 0 (.cf le2_2 (.cf le2_2 (.cf le2_3 (.cf le2_3 .n0)))))),
  (578134969, 105, (.af 22 1 (.cf le2_2 (.cf le2_2 (.cf le2_3 (.cf le2_3 .n0)))))),
  (4208667135, 106, (.af 21 0 (.cf (.vf 102) (.cf (.vf 103) (.cf (.vf 104) (.cf (.vf 105) .n0)))))),
  (4209667138, 107, (.af 21 1 (.cf (.vf 102) (.cf (.vf 103) (.cf (.vf 104) (.cf (.vf 105) .n0)))))),
  (1105450398, 108, (.af 22 0 (.cf le2_4 (.cf le2_4 (.cf le2_5 (.cf le2_5 .n0)))))),
  (1106450401, 109, (.af 22 1 (.cf le2_4 (.cf le2_4 (.cf le2_5 (.cf le2_5 .n0)))))),
  (4224667183, 110, (.af 21 0 (.cf (.vf 106) (.cf (.vf 107) (.cf (.vf 108) (.cf (.vf 109) .n0)))))),
  (4225667186, 111, (.af 21 1 (.cf (.vf 106) (.cf (.vf 107) (.cf (.vf 108) (.cf (.vf 109) .n0)))))),
  (1721950654, 112, (.af 22 0 (.cf le2_7 (.cf le2_7 (.cf le2_1 (.cf le2_1 .n0)))))),
  (1722950657, 113, (.af 22 1 (.cf le2_7 (.cf le2_7 (.cf le2_1 (.cf le2_1 .n0)))))),
  (1253098238, 114, (.af 21 0 (.cf le2_10 (.cf le2_10 (.cf (.vf 112) (.cf (.vf 113) .n0)))))),
  (1254098241, 115, (.af 21 1 (.cf le2_10 (.cf le2_10 (.cf (.vf 112) (.cf (.vf 113) .n0)))))),
  (2250266086, 116, (.af 22 0 (.cf le2_8 (.cf le2_8 (.cf le2_3 (.cf le2_3 .n0)))))),
  (2251266089, 117, (.af 22 1 (.cf le2_8 (.cf le2_8 (.cf le2_3 (.cf le2_3 .n0)))))),
  (4256667279, 118, (.af 21 0 (.cf (.vf 114) (.cf (.vf 115) (.cf (.vf 116) (.cf (.vf 117) .n0)))))),
  (4257667282, 119, (.af 21 1 (.cf (.vf 114) (.cf (.vf 115) (.cf (.vf 116) (.cf (.vf 117) .n0)))))),
  (2778581518, 120, (.af 22 0 (.cf le2_9 (.cf le2_9 (.cf le2_5 (.cf le2_5 .n0)))))),
  (2779581521, 121, (.af 22 1 (.cf le2_9 (.cf le2_9 (.cf le2_5 (.cf le2_5 .n0)))))),
  (4272667327, 122, (.af 21 0 (.cf (.vf 118) (.cf (.vf 119) (.cf (.vf 120) (.cf (.vf 121) .n0)))))),
  (4273667330, 123, (.af 21 1 (.cf (.vf 118) (.cf (.vf 119) (.cf (.vf 120) (.cf (.vf 121) .n0)))))),
  (3395081774, 124, (.af 22 0 (.cf le2_11 (.cf le2_11 (.cf le2_1 (.cf le2_1 .n0)))))),
  (3396081777, 125, (.af 22 1 (.cf le2_11 (.cf le2_11 (.cf le2_1 (.cf le2_1 .n0)))))),
  (1062463716, 126, (.af 21 0 (.cf le2_14 (.cf le2_14 (.cf (.vf 124) (.cf (.vf 125) .n0)))))),
  (1063463719, 127, (.af 21 1 (.cf le2_14 (.cf le2_14 (.cf (.vf 124) (.cf (.vf 125) .n0)))))),
  (3923397206, 128, (.af 22 0 (.cf le2_12 (.cf le2_12 (.cf le2_3 (.cf le2_3 .n0)))))),
  (3924397209, 129, (.af 22 1 (.cf le2_12 (.cf le2_12 (.cf le2_3 (.cf le2_3 .n0)))))),
  (9700132, 130, (.af 21 0 (.cf (.vf 126) (.cf (.vf 127) (.cf (.vf 128) (.cf (.vf 129) .n0)))))),
  (10700135, 131, (.af 21 1 (.cf (.vf 126) (.cf (.vf 127) (.cf (.vf 128) (.cf (.vf 129) .n0)))))),
  (156745347, 132, (.af 22 0 (.cf le2_13 (.cf le2_13 (.cf le2_5 (.cf le2_5 .n0)))))),
  (157745350, 133, (.af 22 1 (.cf le2_13 (.cf le2_13 (.cf le2_5 (.cf le2_5 .n0)))))),
  (25700180, 134, (.af 21 0 (.cf (.vf 130) (.cf (.vf 131) (.cf (.vf 132) (.cf (.vf 133) .n0)))))),
  (26700183, 135, (.af 21 1 (.cf (.vf 130) (.cf (.vf 131) (.cf (.vf 132) (.cf (.vf 133) .n0)))))),
  (3594344988, 136, (.af 21 0 (.cf le2_15 (.cf le2_15 (.cf (.vf 100) (.cf (.vf 101) .n0)))))),
  (3595344991, 137, (.af 21 1 (.cf le2_15 (.cf le2_15 (.cf (.vf 100) (.cf (.vf 101) .n0)))))),
  (4276667339, 138, (.af 21 0 (.cf (.vf 136) (.cf (.vf 137) (.cf (.vf 104) (.cf (.vf 105) .n0)))))),
  (4277667342, 139, (.af 21 1 (.cf (.vf 136) (.cf (.vf 137) (.cf (.vf 104) (.cf (.vf 105) .n0)))))),
  (4288667375, 140, (.af 21 0 (.cf (.vf 138) (.cf (.vf 139) (.cf (.vf 108) (.cf (.vf 109) .n0)))))),
  (4289667378, 141, (.af 21 1 (.cf (.vf 138) (.cf (.vf 139) (.cf (.vf 108) (.cf (.vf 109) .n0))))))]
set_option maxRecDepth 1000000 in
set_option maxHeartbeats 100000000 in
theorem lG2 : tabGood 100 lN2 = true := by kernel_rfl
end Go.Proofs.Ytainodgbcpkipaa
