/-
  'LinLeft': what names stand for, where the first rest is 3.
-/
import Derived.Test.YtainodgbcpkipaaM6b
namespace Go.Proofs.Ytainodgbcpkipaa
open Go.RowKit Ex
def le3_0 : E := (.i2f (.ib .sub .i64 (.ai 9 0 (.ci (.ti (.ic .lss (.li 0) (.vl 0)) (.at 0 0) (.li 0)) (.ci (.li 41) .n0))) (.li 20)))
def le3_1 : E := (.tf (.ic .lss (.li 0) (.vl 1)) (.i2f (.ib .sub .i64 (.ai 9 0 (.ci (.at 1 0) (.ci (.li 21) .n0))) (.li 10))) (.lf 0))
def le3_2 : E := (.i2f (.ib .sub .i64 (.ai 9 0 (.ci (.ti (.ic .lss (.li 1) (.vl 0)) (.at 0 1) (.li 1)) (.ci (.li 41) .n0))) (.li 20)))
def le3_3 : E := (.tf (.ic .lss (.li 1) (.vl 1)) (.i2f (.ib .sub .i64 (.ai 9 0 (.ci (.at 1 1) (.ci (.li 21) .n0))) (.li 10))) (.lf 0))
def le3_4 : E := (.i2f (.ib .sub .i64 (.ai 9 0 (.ci (.ti (.ic .lss (.li 2) (.vl 0)) (.at 0 2) (.li 2)) (.ci (.li 41) .n0))) (.li 20)))
def le3_5 : E := (.tf (.ic .lss (.li 2) (.vl 1)) (.i2f (.ib .sub .i64 (.ai 9 0 (.ci (.at 1 2) (.ci (.li 21) .n0))) (.li 10))) (.lf 0))
def le3_6 : E := (.i2f (.ib .sub .i64 (.ai 9 0 (.ci (.ti (.ic .lss (.li 3) (.vl 0)) (.at 0 3) (.li 3)) (.ci (.li 41) .n0))) (.li 20)))
def le3_7 : E := (.tf (.ic .lss (.li 3) (.vl 1)) (.i2f (.ib .sub .i64 (.ai 9 0 (.ci (.at 1 3) (.ci (.li 21) .n0))) (.li 10))) (.lf 0))
def le3_8 : E := (.fb .add (.fb .add (.fb .add (.fb .add (.lf 0) (.fb .mul le3_0 le3_1)) (.fb .mul le3_2 le3_3)) (.fb .mul le3_4 le3_5)) (.fb .mul le3_6 le3_7))
def le3_9 : E := (.i2f (.ib .sub .i64 (.ai 9 0 (.ci (.ti (.ic .lss (.li 4) (.vl 0)) (.at 0 4) (.li 1)) (.ci (.li 41) .n0))) (.li 20)))
def le3_10 : E := (.i2f (.ib .sub .i64 (.ai 9 0 (.ci (.ti (.ic .lss (.li 5) (.vl 0)) (.at 0 5) (.li 2)) (.ci (.li 41) .n0))) (.li 20)))
def le3_11 : E := (.i2f (.ib .sub .i64 (.ai 9 0 (.ci (.ti (.ic .lss (.li 6) (.vl 0)) (.at 0 6) (.li 3)) (.ci (.li 41) .n0))) (.li 20)))
def le3_12 : E := (.i2f (.ib .sub .i64 (.ai 9 0 (.ci (.ti (.ic .lss (.li 7) (.vl 0)) (.at 0 7) (.li 4)) (.ci (.li 41) .n0))) (.li 20)))
def le3_13 : E := (.fb .add (.fb .add (.fb .add (.fb .add (.lf 0) (.fb .mul le3_9 le3_1)) (.fb .mul le3_10 le3_3)) (.fb .mul le3_11 le3_5)) (.fb .mul le3_12 le3_7))
def le3_14 : E := (.i2f (.ib .sub .i64 (.ai 9 0 (.ci (.ti (.ic .lss (.li 8) (.vl 0)) (.at 0 8) (.li 2)) (.ci (.li 41) .n0))) (.li 20)))
def le3_15 : E := (.i2f (.ib .sub .i64 (.ai 9 0 (.ci (.ti (.ic .lss (.li 9) (.vl 0)) (.at 0 9) (.li 3)) (.ci (.li 41) .n0))) (.li 20)))
def le3_16 : E := (.i2f (.ib .sub .i64 (.ai 9 0 (.ci (.ti (.ic .lss (.li 10) (.vl 0)) (.at 0 10) (.li 4)) (.ci (.li 41) .n0))) (.li 20)))
def le3_17 : E := (.i2f (.ib .sub .i64 (.ai 9 0 (.ci (.ti (.ic .lss (.li 11) (.vl 0)) (.at 0 11) (.li 5)) (.ci (.li 41) .n0))) (.li 20)))
def le3_18 : E := (.fb .add (.fb .add (.fb .add (.fb .add (.lf 0) (.fb .mul le3_14 le3_1)) (.fb .mul le3_15 le3_3)) (.fb .mul le3_16 le3_5)) (.fb .mul le3_17 le3_7))
def le3_19 : E := (.i2f (.ib .sub .i64 (.ai 9 0 (.ci (.ti (.ic .lss (.li 12) (.vl 0)) (.at 0 12) (.li 3)) (.ci (.li 41) .n0))) (.li 20)))
def le3_20 : E := (.i2f (.ib .sub .i64 (.ai 9 0 (.ci (.ti (.ic .lss (.li 13) (.vl 0)) (.at 0 13) (.li 4)) (.ci (.li 41) .n0))) (.li 20)))
def le3_21 : E := (.i2f (.ib .sub .i64 (.ai 9 0 (.ci (.ti (.ic .lss (.li 14) (.vl 0)) (.at 0 14) (.li 5)) (.ci (.li 41) .n0))) (.li 20)))
def le3_22 : E := (.i2f (.ib .sub .i64 (.ai 9 0 (.ci (.ti (.ic .lss (.li 15) (.vl 0)) (.at 0 15) (.li 6)) (.ci (.li 41) .n0))) (.li 20)))
def le3_23 : E := (.fb .add (.fb .add (.fb .add (.fb .add (.lf 0) (.fb .mul le3_19 le3_1)) (.fb .mul le3_20 le3_3)) (.fb .mul le3_21 le3_5)) (.fb .mul le3_22 le3_7))
def le3_24 : E := (.fb .add le3_8 (.lf 4613937818241073152))
def lN3 : Nms := [(48819534, 100, (.af 22 0 (.cf le3_0 (.cf le3_0 (.cf le3_1 (.cf le3_1 .n0)))))),
  (49819537, 101, (.af 22 1 (.cf le3_0 (.cf le3_0 (.cf le3_1 (.cf le3_1 .n0)))))),
  (1643240632, 102, (.af 21 0 (.cf le3_8 (.cf le3_8 (.cf (.vf 100) (.cf (.vf 101) .n0)))))),
  (1644240635, 103, (.af 21 1 (.cf le3_8 (.cf le3_8 (.cf (.vf 100) (.cf (.vf 101) .n0)))))),
  (577134966, 104, (.af 22 0 (.cf le3_2 (.cf le3_2 (.cf le3_3 (.cf le3_3 .n0)))))),
  (578134969, 105, (.af 22 1 (.cf le3_2 (.cf le3_2 (.cf le3_3 (.cf le3_3 .n0)))))),
  (4208667135, 106, (.af 21 0 (.cf (.vf 102) (.cf (.vf 103) (.cf (.vf 104) (.cf (.vf 105) .n0)))))),
  (4209667138, 107, (.af 21 1 (.cf (.vf 102) (.cf (.vf 103) (.cf (.vf 104) (.cf (.vf 105) .n0)))))),
  (1105450398, 108, (.af 22 0 (.cf le3_4 (.cf le3_4 (.cf le3_5 (.cf le3_5 .n0)))))),
  (1106450401, 109, (.af 22 1 (.cf le3_4 (.cf le3_4 (.cf le3_5 (.cf le3_5 .n0)))))),
  (4224667183, 110, (.af 21 0 (.cf (.vf 106) (.cf (.vf 107) (.cf (.vf 108) (.cf (.vf 109) .n0)))))),
  (4225667186, 111, (.af 21 1 (.cf (.vf 106) (.cf (.vf 107) (.cf (.vf 108) (.cf (.vf 109) .n0)))))),
  (1633765830, 112, (.af 22 0 (.cf le3_6 (.cf le3_6 (.cf le3_7 (.cf le3_7 .n0)))))),
  (1634765833, 113, (.af 22 1 (.cf le3_6 (.cf le3_6 (.cf le3_7 (.cf le3_7 .n0)))))),
  (4240667231, 114, (.af 21 0 (.cf (.vf 110) (.cf (.vf 111) (.cf (.vf 112) (.cf (.vf 113) .n0)))))),
  (4241667234, 115, (.af 21 1 (.cf (.vf 110) (.cf (.vf 111) (.cf (.vf 112) (.cf (.vf 113) .n0)))))),
  (4243881681, 116, (.af 22 0 (.cf le3_9 (.cf le3_9 (.cf le3_1 (.cf le3_1 .n0)))))),
  (4244881684, 117, (.af 22 1 (.cf le3_9 (.cf le3_9 (.cf le3_1 (.cf le3_1 .n0)))))),
  (2543922726, 118, (.af 21 0 (.cf le3_13 (.cf le3_13 (.cf (.vf 116) (.cf (.vf 117) .n0)))))),
  (2544922729, 119, (.af 21 1 (.cf le3_13 (.cf le3_13 (.cf (.vf 116) (.cf (.vf 117) .n0)))))),
  (477229822, 120, (.af 22 0 (.cf le3_10 (.cf le3_10 (.cf le3_3 (.cf le3_3 .n0)))))),
  (478229825, 121, (.af 22 1 (.cf le3_10 (.cf le3_10 (.cf le3_3 (.cf le3_3 .n0)))))),
  (4272667327, 122, (.af 21 0 (.cf (.vf 118) (.cf (.vf 119) (.cf (.vf 120) (.cf (.vf 121) .n0)))))),
  (4273667330, 123, (.af 21 1 (.cf (.vf 118) (.cf (.vf 119) (.cf (.vf 120) (.cf (.vf 121) .n0)))))),
  (1005545254, 124, (.af 22 0 (.cf le3_11 (.cf le3_11 (.cf le3_5 (.cf le3_5 .n0)))))),
  (1006545257, 125, (.af 22 1 (.cf le3_11 (.cf le3_11 (.cf le3_5 (.cf le3_5 .n0)))))),
  (4288667375, 126, (.af 21 0 (.cf (.vf 122) (.cf (.vf 123) (.cf (.vf 124) (.cf (.vf 125) .n0)))))),
  (4289667378, 127, (.af 21 1 (.cf (.vf 122) (.cf (.vf 123) (.cf (.vf 124) (.cf (.vf 125) .n0)))))),
  (1533860686, 128, (.af 22 0 (.cf le3_12 (.cf le3_12 (.cf le3_7 (.cf le3_7 .n0)))))),
  (1534860689, 129, (.af 22 1 (.cf le3_12 (.cf le3_12 (.cf le3_7 (.cf le3_7 .n0)))))),
  (9700132, 130, (.af 21 0 (.cf (.vf 126) (.cf (.vf 127) (.cf (.vf 128) (.cf (.vf 129) .n0)))))),
  (10700135, 131, (.af 21 1 (.cf (.vf 126) (.cf (.vf 127) (.cf (.vf 128) (.cf (.vf 129) .n0)))))),
  (4143976537, 132, (.af 22 0 (.cf le3_14 (.cf le3_14 (.cf le3_1 (.cf le3_1 .n0)))))),
  (4144976540, 133, (.af 22 1 (.cf le3_14 (.cf le3_14 (.cf le3_1 (.cf le3_1 .n0)))))),
  (3444604820, 134, (.af 21 0 (.cf le3_18 (.cf le3_18 (.cf (.vf 132) (.cf (.vf 133) .n0)))))),
  (3445604823, 135, (.af 21 1 (.cf le3_18 (.cf le3_18 (.cf (.vf 132) (.cf (.vf 133) .n0)))))),
  (377324678, 136, (.af 22 0 (.cf le3_15 (.cf le3_15 (.cf le3_3 (.cf le3_3 .n0)))))),
  (378324681, 137, (.af 22 1 (.cf le3_15 (.cf le3_15 (.cf le3_3 (.cf le3_3 .n0)))))),
  (41700228, 138, (.af 21 0 (.cf (.vf 134) (.cf (.vf 135) (.cf (.vf 136) (.cf (.vf 137) .n0)))))),
  (42700231, 139, (.af 21 1 (.cf (.vf 134) (.cf (.vf 135) (.cf (.vf 136) (.cf (.vf 137) .n0)))))),
  (905640110, 140, (.af 22 0 (.cf le3_16 (.cf le3_16 (.cf le3_5 (.cf le3_5 .n0)))))),
  (906640113, 141, (.af 22 1 (.cf le3_16 (.cf le3_16 (.cf le3_5 (.cf le3_5 .n0)))))),
  (57700276, 142, (.af 21 0 (.cf (.vf 138) (.cf (.vf 139) (.cf (.vf 140) (.cf (.vf 141) .n0)))))),
  (58700279, 143, (.af 21 1 (.cf (.vf 138) (.cf (.vf 139) (.cf (.vf 140) (.cf (.vf 141) .n0)))))),
  (1433955542, 144, (.af 22 0 (.cf le3_17 (.cf le3_17 (.cf le3_7 (.cf le3_7 .n0)))))),
  (1434955545, 145, (.af 22 1 (.cf le3_17 (.cf le3_17 (.cf le3_7 (.cf le3_7 .n0)))))),
  (73700324, 146, (.af 21 0 (.cf (.vf 142) (.cf (.vf 143) (.cf (.vf 144) (.cf (.vf 145) .n0)))))),
  (74700327, 147, (.af 21 1 (.cf (.vf 142) (.cf (.vf 143) (.cf (.vf 144) (.cf (.vf 145) .n0)))))),
  (4044071393, 148, (.af 22 0 (.cf le3_19 (.cf le3_19 (.cf le3_1 (.cf le3_1 .n0)))))),
  (4045071396, 149, (.af 22 1 (.cf le3_19 (.cf le3_19 (.cf le3_1 (.cf le3_1 .n0)))))),
  (50319623, 150, (.af 21 0 (.cf le3_23 (.cf le3_23 (.cf (.vf 148) (.cf (.vf 149) .n0)))))),
  (51319626, 151, (.af 21 1 (.cf le3_23 (.cf le3_23 (.cf (.vf 148) (.cf (.vf 149) .n0)))))),
  (277419534, 152, (.af 22 0 (.cf le3_20 (.cf le3_20 (.cf le3_3 (.cf le3_3 .n0)))))),
  (278419537, 153, (.af 22 1 (.cf le3_20 (.cf le3_20 (.cf le3_3 (.cf le3_3 .n0)))))),
  (105700420, 154, (.af 21 0 (.cf (.vf 150) (.cf (.vf 151) (.cf (.vf 152) (.cf (.vf 153) .n0)))))),
  (106700423, 155, (.af 21 1 (.cf (.vf 150) (.cf (.vf 151) (.cf (.vf 152) (.cf (.vf 153) .n0)))))),
  (805734966, 156, (.af 22 0 (.cf le3_21 (.cf le3_21 (.cf le3_5 (.cf le3_5 .n0)))))),
  (806734969, 157, (.af 22 1 (.cf le3_21 (.cf le3_21 (.cf le3_5 (.cf le3_5 .n0)))))),
  (121700468, 158, (.af 21 0 (.cf (.vf 154) (.cf (.vf 155) (.cf (.vf 156) (.cf (.vf 157) .n0)))))),
  (122700471, 159, (.af 21 1 (.cf (.vf 154) (.cf (.vf 155) (.cf (.vf 156) (.cf (.vf 157) .n0)))))),
  (1334050398, 160, (.af 22 0 (.cf le3_22 (.cf le3_22 (.cf le3_7 (.cf le3_7 .n0)))))),
  (1335050401, 161, (.af 22 1 (.cf le3_22 (.cf le3_22 (.cf le3_7 (.cf le3_7 .n0)))))),
  (137700516, 162, (.af 21 0 (.cf (.vf 158) (.cf (.vf 159) (.cf (.vf 160) (.cf (.vf 161) .n0)))))),
  (138700519, 163, (.af 21 1 (.cf (.vf 158) (.cf (.vf 159) (.cf (.vf 160) (.cf (.vf 161) .n0)))))),
  (2244267072, 164, (.af 21 0 (.cf le3_24 (.cf le3_24 (.cf (.vf 100) (.cf (.vf 101) .n0)))))),
  (2245267075, 165, (.af 21 1 (.cf le3_24 (.cf le3_24 (.cf (.vf 100) (.cf (.vf 101) .n0)))))),
  (37700216, 166, (.af 21 0 (.cf (.vf 164) (.cf (.vf 165) (.cf (.vf 104) (.cf (.vf 105) .n0)))))),
  (38700219, 167, (.af 21 1 (.cf (.vf 164) (.cf (.vf 165) (.cf (.vf 104) (.cf (.vf 105) .n0)))))),
  (49700252, 168, (.af 21 0 (.cf (.vf 166) (.cf (.vf 167) (.cf (.vf 108) (.cf (.vf 109) .n0)))))),
  (50700255, 169, (.af 21 1 (.cf (.vf 166) (.cf (.vf 167) (.cf (.vf 108) (.cf (.vf 109) .n0)))))),
  (61700288, 170, (.af 21 0 (.cf (.vf 168) (.cf (.vf 169) (.cf (.vf 112) (.cf (.vf 113) .n0)))))),
  (62700291, 171, (.af 21 1 (.cf (.vf 168) (.cf (.vf 169) (.cf (.vf 112) (.cf (.vf 113) .n0))))))]
set_option maxRecDepth 1000000 in
set_option maxHeartbeats 100000000 in
theorem lG3 : tabGood 100 lN3 = true := by kernel_rfl
end Go.Proofs.Ytainodgbcpkipaa
