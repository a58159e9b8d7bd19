/-
  'NordStarts': what names stand for, where the first rest is 0.
-/
import Derived.Test.YtkncchofgehnpaaB8t
namespace Go.Proofs.Ytkncchofgehnpaa
open Go.RowKit Ex
def nordStartsE0_0 : E := (.ic .eql (.ai 9 0 (.ci (.at 1 0) (.ci (.li 11) .n0))) (.li 0))
def nordStartsE0_1 : E := (.lf 4620693217682128896)
def nordStartsE0_2 : E := (.fb .quo (.i2f (.ib .sub .i64 (.ai 9 0 (.ci (.ti (.ic .lss (.li 0) (.vl 2)) (.at 2 0) (.li 0)) (.ci (.li 65) .n0))) (.li 32))) nordStartsE0_1)
def nordStartsE0_3 : E := (.fb .quo (.i2f (.ib .sub .i64 (.ai 9 0 (.ci (.vi 0) (.ci (.li 17) .n0))) (.li 8))) (.lf 4616189618054758400))
def nordStartsE0_4 : E := (.tf (.ic .eql (.ti nordStartsE0_0 (.li 0) (.ai 9 0 (.ci (.ib .quo .i64 (.at 1 0) (.li 4)) (.ci (.li 2) .n0)))) (.li 0)) nordStartsE0_2 nordStartsE0_3)
def nordStartsE0_5 : E := (.tf (.ic .eql (.ti nordStartsE0_0 (.li 0) (.ai 9 0 (.ci (.ib .quo .i64 (.at 1 0) (.li 40)) (.ci (.li 2) .n0)))) (.li 0)) nordStartsE0_2 nordStartsE0_3)
def nordStartsE0_6 : E := (.ib .add .i64 (.li 2) (.ai 9 0 (.ci (.at 1 0) (.ci (.li 3) .n0))))
def nordStartsE0_7 : E := (.tf nordStartsE0_0 (.fb .quo (.i2f (.ib .sub .i64 (.ai 9 0 (.ci (.ib .quo .i64 (.at 1 0) (.li 11)) (.ci (.li 33) .n0))) (.li 16))) nordStartsE0_1) (.lf 0))
def nordStartsE0_8 : E := (.ic .eql (.ai 9 0 (.ci (.at 1 1) (.ci (.li 11) .n0))) (.li 0))
def nordStartsE0_9 : E := (.ti nordStartsE0_8 (.li 0) (.ai 9 0 (.ci (.ib .quo .i64 (.at 1 1) (.li 4)) (.ci (.li 3) .n0))))
def nordStartsE0_10 : E := (.ti nordStartsE0_8 (.li 0) (.ai 9 0 (.ci (.ib .quo .i64 (.at 1 1) (.li 40)) (.ci (.li 3) .n0))))
def nordStartsE0_11 : E := (.ib .add .i64 (.li 2) (.ai 9 0 (.ci (.at 1 1) (.ci (.li 3) .n0))))
def nordStartsE0_12 : E := (.tf nordStartsE0_8 (.fb .quo (.i2f (.ib .sub .i64 (.ai 9 0 (.ci (.ib .quo .i64 (.at 1 1) (.li 11)) (.ci (.li 33) .n0))) (.li 16))) nordStartsE0_1) (.lf 0))
def nordStartsE0_13 : E := (.ic .eql (.ai 9 0 (.ci (.at 1 2) (.ci (.li 11) .n0))) (.li 0))
def nordStartsE0_14 : E := (.ti nordStartsE0_13 (.li 0) (.ai 9 0 (.ci (.ib .quo .i64 (.at 1 2) (.li 4)) (.ci (.li 4) .n0))))
def nordStartsE0_15 : E := (.ti nordStartsE0_13 (.li 0) (.ai 9 0 (.ci (.ib .quo .i64 (.at 1 2) (.li 40)) (.ci (.li 4) .n0))))
def nordStartsE0_16 : E := (.ib .add .i64 (.li 2) (.ai 9 0 (.ci (.at 1 2) (.ci (.li 3) .n0))))
def nordStartsE0_17 : E := (.tf nordStartsE0_13 (.fb .quo (.i2f (.ib .sub .i64 (.ai 9 0 (.ci (.ib .quo .i64 (.at 1 2) (.li 11)) (.ci (.li 33) .n0))) (.li 16))) nordStartsE0_1) (.lf 0))
def nordStartsE0_18 : E := (.ic .eql (.ai 9 0 (.ci (.at 1 3) (.ci (.li 11) .n0))) (.li 0))
def nordStartsE0_19 : E := (.ti nordStartsE0_18 (.li 0) (.ai 9 0 (.ci (.ib .quo .i64 (.at 1 3) (.li 4)) (.ci (.li 5) .n0))))
def nordStartsE0_20 : E := (.ti nordStartsE0_18 (.li 0) (.ai 9 0 (.ci (.ib .quo .i64 (.at 1 3) (.li 40)) (.ci (.li 5) .n0))))
def nordStartsE0_21 : E := (.ib .add .i64 (.li 2) (.ai 9 0 (.ci (.at 1 3) (.ci (.li 3) .n0))))
def nordStartsE0_22 : E := (.tf nordStartsE0_18 (.fb .quo (.i2f (.ib .sub .i64 (.ai 9 0 (.ci (.ib .quo .i64 (.at 1 3) (.li 11)) (.ci (.li 33) .n0))) (.li 16))) nordStartsE0_1) (.lf 0))
def nordStartsE0_23 : E := (.ic .eql (.ai 9 0 (.ci (.at 1 4) (.ci (.li 11) .n0))) (.li 0))
def nordStartsE0_24 : E := (.ti nordStartsE0_23 (.li 0) (.ai 9 0 (.ci (.ib .quo .i64 (.at 1 4) (.li 4)) (.ci (.li 6) .n0))))
def nordStartsE0_25 : E := (.ti nordStartsE0_23 (.li 0) (.ai 9 0 (.ci (.ib .quo .i64 (.at 1 4) (.li 40)) (.ci (.li 6) .n0))))
def nordStartsE0_26 : E := (.ib .add .i64 (.li 2) (.ai 9 0 (.ci (.at 1 4) (.ci (.li 3) .n0))))
def nordStartsE0_27 : E := (.tf nordStartsE0_23 (.fb .quo (.i2f (.ib .sub .i64 (.ai 9 0 (.ci (.ib .quo .i64 (.at 1 4) (.li 11)) (.ci (.li 33) .n0))) (.li 16))) nordStartsE0_1) (.lf 0))
def nordStartsE0_28 : E := (.ic .eql (.ai 9 0 (.ci (.at 1 5) (.ci (.li 11) .n0))) (.li 0))
def nordStartsE0_29 : E := (.ti nordStartsE0_28 (.li 0) (.ai 9 0 (.ci (.ib .quo .i64 (.at 1 5) (.li 4)) (.ci (.li 7) .n0))))
def nordStartsE0_30 : E := (.ti nordStartsE0_28 (.li 0) (.ai 9 0 (.ci (.ib .quo .i64 (.at 1 5) (.li 40)) (.ci (.li 7) .n0))))
def nordStartsE0_31 : E := (.ib .add .i64 (.li 2) (.ai 9 0 (.ci (.at 1 5) (.ci (.li 3) .n0))))
def nordStartsE0_32 : E := (.tf nordStartsE0_28 (.fb .quo (.i2f (.ib .sub .i64 (.ai 9 0 (.ci (.ib .quo .i64 (.at 1 5) (.li 11)) (.ci (.li 33) .n0))) (.li 16))) nordStartsE0_1) (.lf 0))
def nordStartsE0_33 : E := (.ic .eql (.ai 9 0 (.ci (.at 1 6) (.ci (.li 11) .n0))) (.li 0))
def nordStartsE0_34 : E := (.ti nordStartsE0_33 (.li 0) (.ai 9 0 (.ci (.ib .quo .i64 (.at 1 6) (.li 4)) (.ci (.li 8) .n0))))
def nordStartsE0_35 : E := (.ti nordStartsE0_33 (.li 0) (.ai 9 0 (.ci (.ib .quo .i64 (.at 1 6) (.li 40)) (.ci (.li 8) .n0))))
def nordStartsE0_36 : E := (.ib .add .i64 (.li 2) (.ai 9 0 (.ci (.at 1 6) (.ci (.li 3) .n0))))
def nordStartsE0_37 : E := (.tf nordStartsE0_33 (.fb .quo (.i2f (.ib .sub .i64 (.ai 9 0 (.ci (.ib .quo .i64 (.at 1 6) (.li 11)) (.ci (.li 33) .n0))) (.li 16))) nordStartsE0_1) (.lf 0))
def nordStartsE0_38 : E := (.ic .eql (.ai 9 0 (.ci (.at 1 7) (.ci (.li 11) .n0))) (.li 0))
def nordStartsE0_39 : E := (.ti nordStartsE0_38 (.li 0) (.ai 9 0 (.ci (.ib .quo .i64 (.at 1 7) (.li 4)) (.ci (.li 9) .n0))))
def nordStartsE0_40 : E := (.ti nordStartsE0_38 (.li 0) (.ai 9 0 (.ci (.ib .quo .i64 (.at 1 7) (.li 40)) (.ci (.li 9) .n0))))
def nordStartsE0_41 : E := (.ib .add .i64 (.li 2) (.ai 9 0 (.ci (.at 1 7) (.ci (.li 3) .n0))))
def nordStartsE0_42 : E := (.tf nordStartsE0_38 (.fb .quo (.i2f (.ib .sub .i64 (.ai 9 0 (.ci (.ib .quo .i64 (.at 1 7) (.li 11)) (.ci (.li 33) .n0))) (.li 16))) nordStartsE0_1) (.lf 0))
def nordStartsE0_43 : E := (.ai 9 0 (.ci (.ib .add .i64 (.ib .quo .i64 (.vi 0) (.li 3)) (.li 0)) (.ci (.li 3) .n0)))
def nordStartsE0_44 : E := (.ib .sub .i64 (.ib .sub .i64 (.li 9) nordStartsE0_43) (.li 7))
def nordStartsE0_45 : E := (.fb .quo (.i2f (.ib .shl .i64 (.li 1) (.iw .i64 (.ai 9 0 (.ci (.vi 3) (.ci (.li 33) .n0)))))) (.lf 4742290407621132288))
def nordStartsE0_46 : E := (.ib .sub .i64 (.ib .sub .i64 (.li 8) nordStartsE0_43) (.li 6))
def nordStartsE0_47 : E := (.ib .sub .i64 (.ib .sub .i64 (.li 7) nordStartsE0_43) (.li 5))
def nordStartsE0_48 : E := (.ib .sub .i64 (.ib .sub .i64 (.li 6) nordStartsE0_43) (.li 4))
def nordStartsE0_49 : E := (.ib .sub .i64 (.ib .sub .i64 (.li 5) nordStartsE0_43) (.li 3))
def nordStartsE0_50 : E := (.ib .sub .i64 (.ib .sub .i64 (.li 4) nordStartsE0_43) (.li 2))
def nordStartsE0_51 : E := (.ib .sub .i64 (.ib .sub .i64 (.li 3) nordStartsE0_43) (.li 1))
def nordStartsE0_52 : E := (.ib .sub .i64 (.li 2) nordStartsE0_43)
def nordStartsNms0 : Nms := [(3266227675, 100, (.fb .add nordStartsE0_4 nordStartsE0_5)),
  (2544848881, 101, (.fb .sub nordStartsE0_4 nordStartsE0_5)),
  (1823470087, 102, (.fb .mul nordStartsE0_4 nordStartsE0_5)),
  (4127447219, 103, (.tf (.ic .eql nordStartsE0_6 (.li 3)) (.vf 101) (.vf 102))),
  (1274237514, 104, (.tf (.ic .eql nordStartsE0_6 (.li 2)) (.vf 100) (.vf 103))),
  (3492500942, 105, (.tf nordStartsE0_0 nordStartsE0_7 (.vf 104))),
  (2031023430, 106, (.tf (.ic .eql nordStartsE0_9 (.li 0)) nordStartsE0_2 (.tf (.ic .eql nordStartsE0_9 (.li 1)) nordStartsE0_3 (.vf 105)))),
  (1118855812, 107, (.tf (.ic .eql nordStartsE0_10 (.li 0)) nordStartsE0_2 (.tf (.ic .eql nordStartsE0_10 (.li 1)) nordStartsE0_3 (.vf 105)))),
  (1263623538, 108, (.tf (.ic .eql nordStartsE0_11 (.li 3)) (.fb .sub (.vf 106) (.vf 107)) (.fb .mul (.vf 106) (.vf 107)))),
  (330774875, 109, (.tf (.ic .eql nordStartsE0_11 (.li 2)) (.fb .add (.vf 106) (.vf 107)) (.vf 108))),
  (2801171776, 110, (.tf nordStartsE0_8 nordStartsE0_12 (.vf 109))),
  (1631080409, 111, (.tf (.ic .eql nordStartsE0_14 (.li 0)) nordStartsE0_2 (.tf (.ic .eql nordStartsE0_14 (.li 1)) nordStartsE0_3 (.tf (.ic .eql nordStartsE0_14 (.li 2)) (.vf 105) (.vf 110))))),
  (262828982, 112, (.tf (.ic .eql nordStartsE0_15 (.li 0)) nordStartsE0_2 (.tf (.ic .eql nordStartsE0_15 (.li 1)) nordStartsE0_3 (.tf (.ic .eql nordStartsE0_15 (.li 2)) (.vf 105) (.vf 110))))),
  (2611537955, 113, (.tf (.ic .eql nordStartsE0_16 (.li 3)) (.fb .sub (.vf 111) (.vf 112)) (.fb .mul (.vf 111) (.vf 112)))),
  (1673689277, 114, (.tf (.ic .eql nordStartsE0_16 (.li 2)) (.fb .add (.vf 111) (.vf 112)) (.vf 113))),
  (2109842610, 115, (.tf nordStartsE0_13 nordStartsE0_17 (.vf 114))),
  (3079250692, 116, (.tf (.ic .eql nordStartsE0_19 (.li 0)) nordStartsE0_2 (.tf (.ic .eql nordStartsE0_19 (.li 1)) nordStartsE0_3 (.tf (.ic .eql nordStartsE0_19 (.li 2)) (.vf 105) (.tf (.ic .eql nordStartsE0_19 (.li 3)) (.vf 110) (.vf 115)))))),
  (1254915456, 117, (.tf (.ic .eql nordStartsE0_20 (.li 0)) nordStartsE0_2 (.tf (.ic .eql nordStartsE0_20 (.li 1)) nordStartsE0_3 (.tf (.ic .eql nordStartsE0_20 (.li 2)) (.vf 105) (.tf (.ic .eql nordStartsE0_20 (.li 3)) (.vf 110) (.vf 115)))))),
  (3959452372, 118, (.tf (.ic .eql nordStartsE0_21 (.li 3)) (.fb .sub (.vf 116) (.vf 117)) (.fb .mul (.vf 116) (.vf 117)))),
  (3016603679, 119, (.tf (.ic .eql nordStartsE0_21 (.li 2)) (.fb .add (.vf 116) (.vf 117)) (.vf 118))),
  (1418513444, 120, (.tf nordStartsE0_18 nordStartsE0_22 (.vf 119))),
  (2080566988, 121, (.tf (.ic .eql nordStartsE0_24 (.li 0)) nordStartsE0_2 (.tf (.ic .eql nordStartsE0_24 (.li 1)) nordStartsE0_3 (.tf (.ic .eql nordStartsE0_24 (.li 2)) (.vf 105) (.tf (.ic .eql nordStartsE0_24 (.li 3)) (.vf 110) (.tf (.ic .eql nordStartsE0_24 (.li 4)) (.vf 115) (.vf 120))))))),
  (4095115234, 122, (.tf (.ic .eql nordStartsE0_25 (.li 0)) nordStartsE0_2 (.tf (.ic .eql nordStartsE0_25 (.li 1)) nordStartsE0_3 (.tf (.ic .eql nordStartsE0_25 (.li 2)) (.vf 105) (.tf (.ic .eql nordStartsE0_25 (.li 3)) (.vf 110) (.tf (.ic .eql nordStartsE0_25 (.li 4)) (.vf 115) (.vf 120))))))),
  (1012399498, 123, (.tf (.ic .eql nordStartsE0_26 (.li 3)) (.fb .sub (.vf 121) (.vf 122)) (.fb .mul (.vf 121) (.vf 122)))),
  (64550790, 124, (.tf (.ic .eql nordStartsE0_26 (.li 2)) (.fb .add (.vf 121) (.vf 122)) (.vf 123))),
  (727184278, 125, (.tf nordStartsE0_23 nordStartsE0_27 (.vf 124))),
  (2929996588, 126, (.tf (.ic .eql nordStartsE0_29 (.li 0)) nordStartsE0_2 (.tf (.ic .eql nordStartsE0_29 (.li 1)) nordStartsE0_3 (.tf (.ic .eql nordStartsE0_29 (.li 2)) (.vf 105) (.tf (.ic .eql nordStartsE0_29 (.li 3)) (.vf 110) (.tf (.ic .eql nordStartsE0_29 (.li 4)) (.vf 115) (.tf (.ic .eql nordStartsE0_29 (.li 5)) (.vf 120) (.vf 125)))))))),
  (193493734, 127, (.tf (.ic .eql nordStartsE0_30 (.li 0)) nordStartsE0_2 (.tf (.ic .eql nordStartsE0_30 (.li 1)) nordStartsE0_3 (.tf (.ic .eql nordStartsE0_30 (.li 2)) (.vf 105) (.tf (.ic .eql nordStartsE0_30 (.li 3)) (.vf 110) (.tf (.ic .eql nordStartsE0_30 (.li 4)) (.vf 115) (.tf (.ic .eql nordStartsE0_30 (.li 5)) (.vf 120) (.vf 125)))))))),
  (2360313915, 128, (.tf (.ic .eql nordStartsE0_31 (.li 3)) (.fb .sub (.vf 126) (.vf 127)) (.fb .mul (.vf 126) (.vf 127)))),
  (1407465192, 129, (.tf (.ic .eql nordStartsE0_31 (.li 2)) (.fb .add (.vf 126) (.vf 127)) (.vf 128))),
  (35855112, 130, (.tf nordStartsE0_28 nordStartsE0_32 (.vf 129))),
  (1332572201, 131, (.tf (.ic .eql nordStartsE0_34 (.li 0)) nordStartsE0_2 (.tf (.ic .eql nordStartsE0_34 (.li 1)) nordStartsE0_3 (.tf (.ic .eql nordStartsE0_34 (.li 2)) (.vf 105) (.tf (.ic .eql nordStartsE0_34 (.li 3)) (.vf 110) (.tf (.ic .eql nordStartsE0_34 (.li 4)) (.vf 115) (.tf (.ic .eql nordStartsE0_34 (.li 5)) (.vf 120) (.tf (.ic .eql nordStartsE0_34 (.li 6)) (.vf 125) (.vf 130))))))))),
  (2434952829, 132, (.tf (.ic .eql nordStartsE0_35 (.li 0)) nordStartsE0_2 (.tf (.ic .eql nordStartsE0_35 (.li 1)) nordStartsE0_3 (.tf (.ic .eql nordStartsE0_35 (.li 2)) (.vf 105) (.tf (.ic .eql nordStartsE0_35 (.li 3)) (.vf 110) (.tf (.ic .eql nordStartsE0_35 (.li 4)) (.vf 115) (.tf (.ic .eql nordStartsE0_35 (.li 5)) (.vf 120) (.tf (.ic .eql nordStartsE0_35 (.li 6)) (.vf 125) (.vf 130))))))))),
  (3708228332, 133, (.tf (.ic .eql nordStartsE0_36 (.li 3)) (.fb .sub (.vf 131) (.vf 132)) (.fb .mul (.vf 131) (.vf 132)))),
  (2750379594, 134, (.tf (.ic .eql nordStartsE0_36 (.li 2)) (.fb .add (.vf 131) (.vf 132)) (.vf 133))),
  (3639493237, 135, (.tf nordStartsE0_33 nordStartsE0_37 (.vf 134))),
  (1583261118, 136, (.tf (.ic .eql nordStartsE0_39 (.li 0)) nordStartsE0_2 (.tf (.ic .eql nordStartsE0_39 (.li 1)) nordStartsE0_3 (.tf (.ic .eql nordStartsE0_39 (.li 2)) (.vf 105) (.tf (.ic .eql nordStartsE0_39 (.li 3)) (.vf 110) (.tf (.ic .eql nordStartsE0_39 (.li 4)) (.vf 115) (.tf (.ic .eql nordStartsE0_39 (.li 5)) (.vf 120) (.tf (.ic .eql nordStartsE0_39 (.li 6)) (.vf 125) (.tf (.ic .eql nordStartsE0_39 (.li 7)) (.vf 130) (.vf 135)))))))))),
  (2229557937, 137, (.tf (.ic .eql nordStartsE0_40 (.li 0)) nordStartsE0_2 (.tf (.ic .eql nordStartsE0_40 (.li 1)) nordStartsE0_3 (.tf (.ic .eql nordStartsE0_40 (.li 2)) (.vf 105) (.tf (.ic .eql nordStartsE0_40 (.li 3)) (.vf 110) (.tf (.ic .eql nordStartsE0_40 (.li 4)) (.vf 115) (.tf (.ic .eql nordStartsE0_40 (.li 5)) (.vf 120) (.tf (.ic .eql nordStartsE0_40 (.li 6)) (.vf 125) (.tf (.ic .eql nordStartsE0_40 (.li 7)) (.vf 130) (.vf 135)))))))))),
  (761175458, 138, (.tf (.ic .eql nordStartsE0_41 (.li 3)) (.fb .sub (.vf 136) (.vf 137)) (.fb .mul (.vf 136) (.vf 137)))),
  (4093293996, 139, (.tf (.ic .eql nordStartsE0_41 (.li 2)) (.fb .add (.vf 136) (.vf 137)) (.vf 138))),
  (2948164071, 140, (.tf nordStartsE0_38 nordStartsE0_42 (.vf 139))),
  (1918683251, 141, (.tf (.ic .eql nordStartsE0_44 (.li 0)) (.vf 130) (.tf (.ic .eql nordStartsE0_44 (.li 1)) (.vf 135) (.vf 140)))),
  (1918378442, 142, (.fb .mul nordStartsE0_45 (.vf 141))),
  (3385690025, 143, (.tf nordStartsE0_8 nordStartsE0_12 (.tf nordStartsE0_0 nordStartsE0_7 nordStartsE0_3))),
  (2109842639, 144, (.tf nordStartsE0_13 nordStartsE0_17 (.vf 143))),
  (1418513469, 145, (.tf nordStartsE0_18 nordStartsE0_22 (.vf 144))),
  (727184299, 146, (.tf nordStartsE0_23 nordStartsE0_27 (.vf 145))),
  (35855129, 147, (.tf nordStartsE0_28 nordStartsE0_32 (.vf 146))),
  (3639493250, 148, (.tf nordStartsE0_33 nordStartsE0_37 (.vf 147))),
  (2948164080, 149, (.tf nordStartsE0_38 nordStartsE0_42 (.vf 148))),
  (1503373137, 150, (.tf (.ic .eql nordStartsE0_46 (.li 0)) (.vf 125) (.tf (.ic .eql nordStartsE0_46 (.li 1)) (.vf 130) (.vf 135)))),
  (1918378451, 151, (.fb .mul nordStartsE0_45 (.vf 150))),
  (1088063023, 152, (.tf (.ic .eql nordStartsE0_47 (.li 0)) (.vf 120) (.tf (.ic .eql nordStartsE0_47 (.li 1)) (.vf 125) (.vf 130)))),
  (1918378453, 153, (.fb .mul nordStartsE0_45 (.vf 152))),
  (672752909, 154, (.tf (.ic .eql nordStartsE0_48 (.li 0)) (.vf 115) (.tf (.ic .eql nordStartsE0_48 (.li 1)) (.vf 120) (.vf 125)))),
  (1918378455, 155, (.fb .mul nordStartsE0_45 (.vf 154))),
  (257442795, 156, (.tf (.ic .eql nordStartsE0_49 (.li 0)) (.vf 110) (.tf (.ic .eql nordStartsE0_49 (.li 1)) (.vf 115) (.vf 120)))),
  (1918378457, 157, (.fb .mul nordStartsE0_45 (.vf 156))),
  (4137099972, 158, (.tf (.ic .eql nordStartsE0_50 (.li 0)) (.vf 105) (.tf (.ic .eql nordStartsE0_50 (.li 1)) (.vf 110) (.vf 115)))),
  (1918378459, 159, (.fb .mul nordStartsE0_45 (.vf 158))),
  (183834609, 160, (.tf (.ic .eql nordStartsE0_51 (.li 0)) nordStartsE0_3 (.tf (.ic .eql nordStartsE0_51 (.li 1)) (.vf 105) (.vf 110)))),
  (1918378461, 161, (.fb .mul nordStartsE0_45 (.vf 160))),
  (714280178, 162, (.tf (.ic .eql nordStartsE0_52 (.li 0)) nordStartsE0_2 (.tf (.ic .eql nordStartsE0_52 (.li 1)) nordStartsE0_3 (.vf 105)))),
  (1918378463, 163, (.fb .mul nordStartsE0_45 (.vf 162)))]
set_option maxRecDepth 1000000 in
set_option maxHeartbeats 100000000 in
theorem nordStartsGood0 : tabGood 100 nordStartsNms0 = true := by kernel_rfl
end Go.Proofs.Ytkncchofgehnpaa
