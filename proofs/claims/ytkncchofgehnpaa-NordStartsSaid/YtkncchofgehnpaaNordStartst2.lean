/-
  'NordStarts': what names stand for, where the first rest is 2.
-/
import Derived.Test.YtkncchofgehnpaaB8t
namespace Go.Proofs.Ytkncchofgehnpaa
open Go.RowKit Ex
def nordStartsE2_0 : E := (.ic .eql (.ai 9 0 (.ci (.at 1 0) (.ci (.li 11) .n0))) (.li 0))
def nordStartsE2_1 : E := (.ti nordStartsE2_0 (.li 0) (.ai 9 0 (.ci (.ib .quo .i64 (.at 1 0) (.li 4)) (.ci (.li 4) .n0))))
def nordStartsE2_2 : E := (.lf 4620693217682128896)
def nordStartsE2_3 : E := (.fb .quo (.i2f (.ib .sub .i64 (.ai 9 0 (.ci (.ti (.ic .lss (.li 0) (.vl 2)) (.at 2 0) (.li 0)) (.ci (.li 65) .n0))) (.li 32))) nordStartsE2_2)
def nordStartsE2_4 : E := (.fb .quo (.i2f (.ib .sub .i64 (.ai 9 0 (.ci (.ti (.ic .lss (.li 1) (.vl 2)) (.at 2 1) (.li 1)) (.ci (.li 65) .n0))) (.li 32))) nordStartsE2_2)
def nordStartsE2_5 : E := (.fb .quo (.i2f (.ib .sub .i64 (.ai 9 0 (.ci (.ti (.ic .lss (.li 2) (.vl 2)) (.at 2 2) (.li 2)) (.ci (.li 65) .n0))) (.li 32))) nordStartsE2_2)
def nordStartsE2_6 : E := (.fb .quo (.i2f (.ib .sub .i64 (.ai 9 0 (.ci (.vi 0) (.ci (.li 17) .n0))) (.li 8))) (.lf 4616189618054758400))
def nordStartsE2_7 : E := (.ti nordStartsE2_0 (.li 0) (.ai 9 0 (.ci (.ib .quo .i64 (.at 1 0) (.li 40)) (.ci (.li 4) .n0))))
def nordStartsE2_8 : E := (.ib .add .i64 (.li 2) (.ai 9 0 (.ci (.at 1 0) (.ci (.li 3) .n0))))
def nordStartsE2_9 : E := (.tf nordStartsE2_0 (.fb .quo (.i2f (.ib .sub .i64 (.ai 9 0 (.ci (.ib .quo .i64 (.at 1 0) (.li 11)) (.ci (.li 33) .n0))) (.li 16))) nordStartsE2_2) (.lf 0))
def nordStartsE2_10 : E := (.ic .eql (.ai 9 0 (.ci (.at 1 1) (.ci (.li 11) .n0))) (.li 0))
def nordStartsE2_11 : E := (.ti nordStartsE2_10 (.li 0) (.ai 9 0 (.ci (.ib .quo .i64 (.at 1 1) (.li 4)) (.ci (.li 5) .n0))))
def nordStartsE2_12 : E := (.ti nordStartsE2_10 (.li 0) (.ai 9 0 (.ci (.ib .quo .i64 (.at 1 1) (.li 40)) (.ci (.li 5) .n0))))
def nordStartsE2_13 : E := (.ib .add .i64 (.li 2) (.ai 9 0 (.ci (.at 1 1) (.ci (.li 3) .n0))))
def nordStartsE2_14 : E := (.tf nordStartsE2_10 (.fb .quo (.i2f (.ib .sub .i64 (.ai 9 0 (.ci (.ib .quo .i64 (.at 1 1) (.li 11)) (.ci (.li 33) .n0))) (.li 16))) nordStartsE2_2) (.lf 0))
def nordStartsE2_15 : E := (.ic .eql (.ai 9 0 (.ci (.at 1 2) (.ci (.li 11) .n0))) (.li 0))
def nordStartsE2_16 : E := (.ti nordStartsE2_15 (.li 0) (.ai 9 0 (.ci (.ib .quo .i64 (.at 1 2) (.li 4)) (.ci (.li 6) .n0))))
def nordStartsE2_17 : E := (.ti nordStartsE2_15 (.li 0) (.ai 9 0 (.ci (.ib .quo .i64 (.at 1 2) (.li 40)) (.ci (.li 6) .n0))))
def nordStartsE2_18 : E := (.ib .add .i64 (.li 2) (.ai 9 0 (.ci (.at 1 2) (.ci (.li 3) .n0))))
def nordStartsE2_19 : E := (.tf nordStartsE2_15 (.fb .quo (.i2f (.ib .sub .i64 (.ai 9 0 (.ci (.ib .quo .i64 (.at 1 2) (.li 11)) (.ci (.li 33) .n0))) (.li 16))) nordStartsE2_2) (.lf 0))
def nordStartsE2_20 : E := (.ic .eql (.ai 9 0 (.ci (.at 1 3) (.ci (.li 11) .n0))) (.li 0))
def nordStartsE2_21 : E := (.ti nordStartsE2_20 (.li 0) (.ai 9 0 (.ci (.ib .quo .i64 (.at 1 3) (.li 4)) (.ci (.li 7) .n0))))
def nordStartsE2_22 : E := (.ti nordStartsE2_20 (.li 0) (.ai 9 0 (.ci (.ib .quo .i64 (.at 1 3) (.li 40)) (.ci (.li 7) .n0))))
def nordStartsE2_23 : E := (.ib .add .i64 (.li 2) (.ai 9 0 (.ci (.at 1 3) (.ci (.li 3) .n0))))
def nordStartsE2_24 : E := (.tf nordStartsE2_20 (.fb .quo (.i2f (.ib .sub .i64 (.ai 9 0 (.ci (.ib .quo .i64 (.at 1 3) (.li 11)) (.ci (.li 33) .n0))) (.li 16))) nordStartsE2_2) (.lf 0))
def nordStartsE2_25 : E := (.ic .eql (.ai 9 0 (.ci (.at 1 4) (.ci (.li 11) .n0))) (.li 0))
def nordStartsE2_26 : E := (.ti nordStartsE2_25 (.li 0) (.ai 9 0 (.ci (.ib .quo .i64 (.at 1 4) (.li 4)) (.ci (.li 8) .n0))))
def nordStartsE2_27 : E := (.ti nordStartsE2_25 (.li 0) (.ai 9 0 (.ci (.ib .quo .i64 (.at 1 4) (.li 40)) (.ci (.li 8) .n0))))
def nordStartsE2_28 : E := (.ib .add .i64 (.li 2) (.ai 9 0 (.ci (.at 1 4) (.ci (.li 3) .n0))))
def nordStartsE2_29 : E := (.tf nordStartsE2_25 (.fb .quo (.i2f (.ib .sub .i64 (.ai 9 0 (.ci (.ib .quo .i64 (.at 1 4) (.li 11)) (.ci (.li 33) .n0))) (.li 16))) nordStartsE2_2) (.lf 0))
def nordStartsE2_30 : E := (.ic .eql (.ai 9 0 (.ci (.at 1 5) (.ci (.li 11) .n0))) (.li 0))
def nordStartsE2_31 : E := (.ti nordStartsE2_30 (.li 0) (.ai 9 0 (.ci (.ib .quo .i64 (.at 1 5) (.li 4)) (.ci (.li 9) .n0))))
def nordStartsE2_32 : E := (.ti nordStartsE2_30 (.li 0) (.ai 9 0 (.ci (.ib .quo .i64 (.at 1 5) (.li 40)) (.ci (.li 9) .n0))))
def nordStartsE2_33 : E := (.ib .add .i64 (.li 2) (.ai 9 0 (.ci (.at 1 5) (.ci (.li 3) .n0))))
def nordStartsE2_34 : E := (.tf nordStartsE2_30 (.fb .quo (.i2f (.ib .sub .i64 (.ai 9 0 (.ci (.ib .quo .i64 (.at 1 5) (.li 11)) (.ci (.li 33) .n0))) (.li 16))) nordStartsE2_2) (.lf 0))
def nordStartsE2_35 : E := (.ic .eql (.ai 9 0 (.ci (.at 1 6) (.ci (.li 11) .n0))) (.li 0))
def nordStartsE2_36 : E := (.ti nordStartsE2_35 (.li 0) (.ai 9 0 (.ci (.ib .quo .i64 (.at 1 6) (.li 4)) (.ci (.li 10) .n0))))
def nordStartsE2_37 : E := (.ti nordStartsE2_35 (.li 0) (.ai 9 0 (.ci (.ib .quo .i64 (.at 1 6) (.li 40)) (.ci (.li 10) .n0))))
def nordStartsE2_38 : E := (.ib .add .i64 (.li 2) (.ai 9 0 (.ci (.at 1 6) (.ci (.li 3) .n0))))
def nordStartsE2_39 : E := (.tf nordStartsE2_35 (.fb .quo (.i2f (.ib .sub .i64 (.ai 9 0 (.ci (.ib .quo .i64 (.at 1 6) (.li 11)) (.ci (.li 33) .n0))) (.li 16))) nordStartsE2_2) (.lf 0))
def nordStartsE2_40 : E := (.ic .eql (.ai 9 0 (.ci (.at 1 7) (.ci (.li 11) .n0))) (.li 0))
def nordStartsE2_41 : E := (.ti nordStartsE2_40 (.li 0) (.ai 9 0 (.ci (.ib .quo .i64 (.at 1 7) (.li 4)) (.ci (.li 11) .n0))))
def nordStartsE2_42 : E := (.ti nordStartsE2_40 (.li 0) (.ai 9 0 (.ci (.ib .quo .i64 (.at 1 7) (.li 40)) (.ci (.li 11) .n0))))
def nordStartsE2_43 : E := (.ib .add .i64 (.li 2) (.ai 9 0 (.ci (.at 1 7) (.ci (.li 3) .n0))))
def nordStartsE2_44 : E := (.tf nordStartsE2_40 (.fb .quo (.i2f (.ib .sub .i64 (.ai 9 0 (.ci (.ib .quo .i64 (.at 1 7) (.li 11)) (.ci (.li 33) .n0))) (.li 16))) nordStartsE2_2) (.lf 0))
def nordStartsE2_45 : E := (.ib .quo .i64 (.vi 0) (.li 3))
def nordStartsE2_46 : E := (.ai 9 0 (.ci (.ib .add .i64 nordStartsE2_45 (.li 0)) (.ci (.li 3) .n0)))
def nordStartsE2_47 : E := (.ib .sub .i64 (.ib .sub .i64 (.li 11) nordStartsE2_46) (.li 9))
def nordStartsE2_48 : E := (.ai 9 0 (.ci (.ib .add .i64 nordStartsE2_45 (.li 1)) (.ci (.li 3) .n0)))
def nordStartsE2_49 : E := (.ib .sub .i64 (.ib .sub .i64 (.li 11) nordStartsE2_48) (.li 9))
def nordStartsE2_50 : E := (.ai 9 0 (.ci (.ib .add .i64 nordStartsE2_45 (.li 2)) (.ci (.li 3) .n0)))
def nordStartsE2_51 : E := (.ib .sub .i64 (.ib .sub .i64 (.li 11) nordStartsE2_50) (.li 9))
def nordStartsE2_52 : E := (.fb .quo (.i2f (.ib .shl .i64 (.li 1) (.iw .i64 (.ai 9 0 (.ci (.vi 3) (.ci (.li 33) .n0)))))) (.lf 4742290407621132288))
def nordStartsE2_53 : E := (.ib .sub .i64 (.ib .sub .i64 (.li 10) nordStartsE2_46) (.li 8))
def nordStartsE2_54 : E := (.ib .sub .i64 (.ib .sub .i64 (.li 10) nordStartsE2_48) (.li 8))
def nordStartsE2_55 : E := (.ib .sub .i64 (.ib .sub .i64 (.li 10) nordStartsE2_50) (.li 8))
def nordStartsE2_56 : E := (.ib .sub .i64 (.ib .sub .i64 (.li 9) nordStartsE2_46) (.li 7))
def nordStartsE2_57 : E := (.ib .sub .i64 (.ib .sub .i64 (.li 9) nordStartsE2_48) (.li 7))
def nordStartsE2_58 : E := (.ib .sub .i64 (.ib .sub .i64 (.li 9) nordStartsE2_50) (.li 7))
def nordStartsE2_59 : E := (.ib .sub .i64 (.ib .sub .i64 (.li 8) nordStartsE2_46) (.li 6))
def nordStartsE2_60 : E := (.ib .sub .i64 (.ib .sub .i64 (.li 8) nordStartsE2_48) (.li 6))
def nordStartsE2_61 : E := (.ib .sub .i64 (.ib .sub .i64 (.li 8) nordStartsE2_50) (.li 6))
def nordStartsE2_62 : E := (.ib .sub .i64 (.ib .sub .i64 (.li 7) nordStartsE2_46) (.li 5))
def nordStartsE2_63 : E := (.ib .sub .i64 (.ib .sub .i64 (.li 7) nordStartsE2_48) (.li 5))
def nordStartsE2_64 : E := (.ib .sub .i64 (.ib .sub .i64 (.li 7) nordStartsE2_50) (.li 5))
def nordStartsE2_65 : E := (.ib .sub .i64 (.ib .sub .i64 (.li 6) nordStartsE2_46) (.li 4))
def nordStartsE2_66 : E := (.ib .sub .i64 (.ib .sub .i64 (.li 6) nordStartsE2_48) (.li 4))
def nordStartsE2_67 : E := (.ib .sub .i64 (.ib .sub .i64 (.li 6) nordStartsE2_50) (.li 4))
def nordStartsE2_68 : E := (.ib .sub .i64 (.ib .sub .i64 (.li 5) nordStartsE2_46) (.li 3))
def nordStartsE2_69 : E := (.ib .sub .i64 (.ib .sub .i64 (.li 5) nordStartsE2_48) (.li 3))
def nordStartsE2_70 : E := (.ib .sub .i64 (.ib .sub .i64 (.li 5) nordStartsE2_50) (.li 3))
def nordStartsE2_71 : E := (.ib .sub .i64 (.ib .sub .i64 (.li 4) nordStartsE2_46) (.li 2))
def nordStartsE2_72 : E := (.ib .sub .i64 (.ib .sub .i64 (.li 4) nordStartsE2_48) (.li 2))
def nordStartsE2_73 : E := (.ib .sub .i64 (.ib .sub .i64 (.li 4) nordStartsE2_50) (.li 2))
def nordStartsE2_74 : E := (.ib .sub .i64 (.ib .sub .i64 (.li 3) nordStartsE2_46) (.li 1))
def nordStartsE2_75 : E := (.ib .sub .i64 (.ib .sub .i64 (.li 3) nordStartsE2_48) (.li 1))
def nordStartsE2_76 : E := (.ib .sub .i64 (.ib .sub .i64 (.li 3) nordStartsE2_50) (.li 1))
def nordStartsNms2 : Nms := [(3771192974, 100, (.tf (.ic .eql nordStartsE2_1 (.li 0)) nordStartsE2_3 (.tf (.ic .eql nordStartsE2_1 (.li 1)) nordStartsE2_4 (.tf (.ic .eql nordStartsE2_1 (.li 2)) nordStartsE2_5 nordStartsE2_6)))),
  (2402941547, 101, (.tf (.ic .eql nordStartsE2_7 (.li 0)) nordStartsE2_3 (.tf (.ic .eql nordStartsE2_7 (.li 1)) nordStartsE2_4 (.tf (.ic .eql nordStartsE2_7 (.li 2)) nordStartsE2_5 nordStartsE2_6)))),
  (635087908, 102, (.tf (.ic .eql nordStartsE2_8 (.li 3)) (.fb .sub (.vf 100) (.vf 101)) (.fb .mul (.vf 100) (.vf 101)))),
  (4003206554, 103, (.tf (.ic .eql nordStartsE2_8 (.li 2)) (.fb .add (.vf 100) (.vf 101)) (.vf 102))),
  (3492500941, 104, (.tf nordStartsE2_0 nordStartsE2_9 (.vf 103))),
  (3890883918, 105, (.tf (.ic .eql nordStartsE2_11 (.li 0)) nordStartsE2_3 (.tf (.ic .eql nordStartsE2_11 (.li 1)) nordStartsE2_4 (.tf (.ic .eql nordStartsE2_11 (.li 2)) nordStartsE2_5 (.tf (.ic .eql nordStartsE2_11 (.li 3)) nordStartsE2_6 (.vf 104)))))),
  (2066548682, 106, (.tf (.ic .eql nordStartsE2_12 (.li 0)) nordStartsE2_3 (.tf (.ic .eql nordStartsE2_12 (.li 1)) nordStartsE2_4 (.tf (.ic .eql nordStartsE2_12 (.li 2)) nordStartsE2_5 (.tf (.ic .eql nordStartsE2_12 (.li 3)) nordStartsE2_6 (.vf 104)))))),
  (1983002325, 107, (.tf (.ic .eql nordStartsE2_13 (.li 3)) (.fb .sub (.vf 105) (.vf 106)) (.fb .mul (.vf 105) (.vf 106)))),
  (1051153665, 108, (.tf (.ic .eql nordStartsE2_13 (.li 2)) (.fb .add (.vf 105) (.vf 106)) (.vf 107))),
  (2801171775, 109, (.tf nordStartsE2_10 nordStartsE2_14 (.vf 108))),
  (2194693548, 110, (.tf (.ic .eql nordStartsE2_16 (.li 0)) nordStartsE2_3 (.tf (.ic .eql nordStartsE2_16 (.li 1)) nordStartsE2_4 (.tf (.ic .eql nordStartsE2_16 (.li 2)) nordStartsE2_5 (.tf (.ic .eql nordStartsE2_16 (.li 3)) nordStartsE2_6 (.tf (.ic .eql nordStartsE2_16 (.li 4)) (.vf 104) (.vf 109))))))),
  (4209241794, 111, (.tf (.ic .eql nordStartsE2_17 (.li 0)) nordStartsE2_3 (.tf (.ic .eql nordStartsE2_17 (.li 1)) nordStartsE2_4 (.tf (.ic .eql nordStartsE2_17 (.li 2)) nordStartsE2_5 (.tf (.ic .eql nordStartsE2_17 (.li 3)) nordStartsE2_6 (.tf (.ic .eql nordStartsE2_17 (.li 4)) (.vf 104) (.vf 109))))))),
  (3330916742, 112, (.tf (.ic .eql nordStartsE2_18 (.li 3)) (.fb .sub (.vf 110) (.vf 111)) (.fb .mul (.vf 110) (.vf 111)))),
  (2394068067, 113, (.tf (.ic .eql nordStartsE2_18 (.li 2)) (.fb .add (.vf 110) (.vf 111)) (.vf 112))),
  (2109842609, 114, (.tf nordStartsE2_15 nordStartsE2_19 (.vf 113))),
  (2346616482, 115, (.tf (.ic .eql nordStartsE2_21 (.li 0)) nordStartsE2_3 (.tf (.ic .eql nordStartsE2_21 (.li 1)) nordStartsE2_4 (.tf (.ic .eql nordStartsE2_21 (.li 2)) nordStartsE2_5 (.tf (.ic .eql nordStartsE2_21 (.li 3)) nordStartsE2_6 (.tf (.ic .eql nordStartsE2_21 (.li 4)) (.vf 104) (.tf (.ic .eql nordStartsE2_21 (.li 5)) (.vf 109) (.vf 114)))))))),
  (3905080919, 116, (.tf (.ic .eql nordStartsE2_22 (.li 0)) nordStartsE2_3 (.tf (.ic .eql nordStartsE2_22 (.li 1)) nordStartsE2_4 (.tf (.ic .eql nordStartsE2_22 (.li 2)) nordStartsE2_5 (.tf (.ic .eql nordStartsE2_22 (.li 3)) nordStartsE2_6 (.tf (.ic .eql nordStartsE2_22 (.li 4)) (.vf 104) (.tf (.ic .eql nordStartsE2_22 (.li 5)) (.vf 109) (.vf 114)))))))),
  (383863868, 117, (.tf (.ic .eql nordStartsE2_23 (.li 3)) (.fb .sub (.vf 115) (.vf 116)) (.fb .mul (.vf 115) (.vf 116)))),
  (3736982469, 118, (.tf (.ic .eql nordStartsE2_23 (.li 2)) (.fb .add (.vf 115) (.vf 116)) (.vf 117))),
  (1418513443, 119, (.tf nordStartsE2_20 nordStartsE2_24 (.vf 118))),
  (51685429, 120, (.tf (.ic .eql nordStartsE2_26 (.li 0)) nordStartsE2_3 (.tf (.ic .eql nordStartsE2_26 (.li 1)) nordStartsE2_4 (.tf (.ic .eql nordStartsE2_26 (.li 2)) nordStartsE2_5 (.tf (.ic .eql nordStartsE2_26 (.li 3)) nordStartsE2_6 (.tf (.ic .eql nordStartsE2_26 (.li 4)) (.vf 104) (.tf (.ic .eql nordStartsE2_26 (.li 5)) (.vf 109) (.tf (.ic .eql nordStartsE2_26 (.li 6)) (.vf 114) (.vf 119))))))))),
  (1154066057, 121, (.tf (.ic .eql nordStartsE2_27 (.li 0)) nordStartsE2_3 (.tf (.ic .eql nordStartsE2_27 (.li 1)) nordStartsE2_4 (.tf (.ic .eql nordStartsE2_27 (.li 2)) nordStartsE2_5 (.tf (.ic .eql nordStartsE2_27 (.li 3)) nordStartsE2_6 (.tf (.ic .eql nordStartsE2_27 (.li 4)) (.vf 104) (.tf (.ic .eql nordStartsE2_27 (.li 5)) (.vf 109) (.tf (.ic .eql nordStartsE2_27 (.li 6)) (.vf 114) (.vf 119))))))))),
  (1731778285, 122, (.tf (.ic .eql nordStartsE2_28 (.li 3)) (.fb .sub (.vf 120) (.vf 121)) (.fb .mul (.vf 120) (.vf 121)))),
  (784929580, 123, (.tf (.ic .eql nordStartsE2_28 (.li 2)) (.fb .add (.vf 120) (.vf 121)) (.vf 122))),
  (727184277, 124, (.tf nordStartsE2_25 nordStartsE2_29 (.vf 123))),
  (3899834971, 125, (.tf (.ic .eql nordStartsE2_31 (.li 0)) nordStartsE2_3 (.tf (.ic .eql nordStartsE2_31 (.li 1)) nordStartsE2_4 (.tf (.ic .eql nordStartsE2_31 (.li 2)) nordStartsE2_5 (.tf (.ic .eql nordStartsE2_31 (.li 3)) nordStartsE2_6 (.tf (.ic .eql nordStartsE2_31 (.li 4)) (.vf 104) (.tf (.ic .eql nordStartsE2_31 (.li 5)) (.vf 109) (.tf (.ic .eql nordStartsE2_31 (.li 6)) (.vf 114) (.tf (.ic .eql nordStartsE2_31 (.li 7)) (.vf 119) (.vf 124)))))))))),
  (251164499, 126, (.tf (.ic .eql nordStartsE2_32 (.li 0)) nordStartsE2_3 (.tf (.ic .eql nordStartsE2_32 (.li 1)) nordStartsE2_4 (.tf (.ic .eql nordStartsE2_32 (.li 2)) nordStartsE2_5 (.tf (.ic .eql nordStartsE2_32 (.li 3)) nordStartsE2_6 (.tf (.ic .eql nordStartsE2_32 (.li 4)) (.vf 104) (.tf (.ic .eql nordStartsE2_32 (.li 5)) (.vf 109) (.tf (.ic .eql nordStartsE2_32 (.li 6)) (.vf 114) (.tf (.ic .eql nordStartsE2_32 (.li 7)) (.vf 119) (.vf 124)))))))))),
  (3079692702, 127, (.tf (.ic .eql nordStartsE2_33 (.li 3)) (.fb .sub (.vf 125) (.vf 126)) (.fb .mul (.vf 125) (.vf 126)))),
  (2127843982, 128, (.tf (.ic .eql nordStartsE2_33 (.li 2)) (.fb .add (.vf 125) (.vf 126)) (.vf 127))),
  (35855111, 129, (.tf nordStartsE2_30 nordStartsE2_34 (.vf 128))),
  (1006163235, 130, (.tf (.ic .eql nordStartsE2_36 (.li 0)) nordStartsE2_3 (.tf (.ic .eql nordStartsE2_36 (.li 1)) nordStartsE2_4 (.tf (.ic .eql nordStartsE2_36 (.li 2)) nordStartsE2_5 (.tf (.ic .eql nordStartsE2_36 (.li 3)) nordStartsE2_6 (.tf (.ic .eql nordStartsE2_36 (.li 4)) (.vf 104) (.tf (.ic .eql nordStartsE2_36 (.li 5)) (.vf 109) (.tf (.ic .eql nordStartsE2_36 (.li 6)) (.vf 114) (.tf (.ic .eql nordStartsE2_36 (.li 7)) (.vf 119) (.tf (.ic .eql nordStartsE2_36 (.li 8)) (.vf 124) (.vf 129))))))))))),
  (1196376245, 131, (.tf (.ic .eql nordStartsE2_37 (.li 0)) nordStartsE2_3 (.tf (.ic .eql nordStartsE2_37 (.li 1)) nordStartsE2_4 (.tf (.ic .eql nordStartsE2_37 (.li 2)) nordStartsE2_5 (.tf (.ic .eql nordStartsE2_37 (.li 3)) nordStartsE2_6 (.tf (.ic .eql nordStartsE2_37 (.li 4)) (.vf 104) (.tf (.ic .eql nordStartsE2_37 (.li 5)) (.vf 109) (.tf (.ic .eql nordStartsE2_37 (.li 6)) (.vf 114) (.tf (.ic .eql nordStartsE2_37 (.li 7)) (.vf 119) (.tf (.ic .eql nordStartsE2_37 (.li 8)) (.vf 124) (.vf 129))))))))))),
  (132639828, 132, (.tf (.ic .eql nordStartsE2_38 (.li 3)) (.fb .sub (.vf 130) (.vf 131)) (.fb .mul (.vf 130) (.vf 131)))),
  (3470758384, 133, (.tf (.ic .eql nordStartsE2_38 (.li 2)) (.fb .add (.vf 130) (.vf 131)) (.vf 132))),
  (3639493236, 134, (.tf nordStartsE2_35 nordStartsE2_39 (.vf 133))),
  (4255572094, 135, (.tf (.ic .eql nordStartsE2_41 (.li 0)) nordStartsE2_3 (.tf (.ic .eql nordStartsE2_41 (.li 1)) nordStartsE2_4 (.tf (.ic .eql nordStartsE2_41 (.li 2)) nordStartsE2_5 (.tf (.ic .eql nordStartsE2_41 (.li 3)) nordStartsE2_6 (.tf (.ic .eql nordStartsE2_41 (.li 4)) (.vf 104) (.tf (.ic .eql nordStartsE2_41 (.li 5)) (.vf 109) (.tf (.ic .eql nordStartsE2_41 (.li 6)) (.vf 114) (.tf (.ic .eql nordStartsE2_41 (.li 7)) (.vf 119) (.tf (.ic .eql nordStartsE2_41 (.li 8)) (.vf 124) (.tf (.ic .eql nordStartsE2_41 (.li 9)) (.vf 129) (.vf 134)))))))))))),
  (3989701295, 136, (.tf (.ic .eql nordStartsE2_42 (.li 0)) nordStartsE2_3 (.tf (.ic .eql nordStartsE2_42 (.li 1)) nordStartsE2_4 (.tf (.ic .eql nordStartsE2_42 (.li 2)) nordStartsE2_5 (.tf (.ic .eql nordStartsE2_42 (.li 3)) nordStartsE2_6 (.tf (.ic .eql nordStartsE2_42 (.li 4)) (.vf 104) (.tf (.ic .eql nordStartsE2_42 (.li 5)) (.vf 109) (.tf (.ic .eql nordStartsE2_42 (.li 6)) (.vf 114) (.tf (.ic .eql nordStartsE2_42 (.li 7)) (.vf 119) (.tf (.ic .eql nordStartsE2_42 (.li 8)) (.vf 124) (.tf (.ic .eql nordStartsE2_42 (.li 9)) (.vf 129) (.vf 134)))))))))))),
  (1480554245, 137, (.tf (.ic .eql nordStartsE2_43 (.li 3)) (.fb .sub (.vf 135) (.vf 136)) (.fb .mul (.vf 135) (.vf 136)))),
  (518705495, 138, (.tf (.ic .eql nordStartsE2_43 (.li 2)) (.fb .add (.vf 135) (.vf 136)) (.vf 137))),
  (2948164070, 139, (.tf nordStartsE2_40 nordStartsE2_44 (.vf 138))),
  (2727303402, 140, (.tf (.ic .eql nordStartsE2_47 (.li 0)) (.vf 129) (.tf (.ic .eql nordStartsE2_47 (.li 1)) (.vf 134) (.vf 139)))),
  (435340860, 141, (.tf (.ic .eql nordStartsE2_49 (.li 0)) (.vf 129) (.tf (.ic .eql nordStartsE2_49 (.li 1)) (.vf 134) (.vf 139)))),
  (2438345609, 142, (.tf (.ic .eql nordStartsE2_51 (.li 0)) (.vf 129) (.tf (.ic .eql nordStartsE2_51 (.li 1)) (.vf 134) (.vf 139)))),
  (1918378441, 143, (.fb .mul nordStartsE2_52 (.vf 140))),
  (1918378442, 144, (.fb .mul nordStartsE2_52 (.vf 141))),
  (1918378443, 145, (.fb .mul nordStartsE2_52 (.vf 142))),
  (3385690025, 146, (.tf nordStartsE2_10 nordStartsE2_14 (.tf nordStartsE2_0 nordStartsE2_9 nordStartsE2_6))),
  (2109842642, 147, (.tf nordStartsE2_15 nordStartsE2_19 (.vf 146))),
  (1418513472, 148, (.tf nordStartsE2_20 nordStartsE2_24 (.vf 147))),
  (727184302, 149, (.tf nordStartsE2_25 nordStartsE2_29 (.vf 148))),
  (35855132, 150, (.tf nordStartsE2_30 nordStartsE2_34 (.vf 149))),
  (3639493253, 151, (.tf nordStartsE2_35 nordStartsE2_39 (.vf 150))),
  (2948164083, 152, (.tf nordStartsE2_40 nordStartsE2_44 (.vf 151))),
  (2311993288, 153, (.tf (.ic .eql nordStartsE2_53 (.li 0)) (.vf 124) (.tf (.ic .eql nordStartsE2_53 (.li 1)) (.vf 129) (.vf 134)))),
  (20030746, 154, (.tf (.ic .eql nordStartsE2_54 (.li 0)) (.vf 124) (.tf (.ic .eql nordStartsE2_54 (.li 1)) (.vf 129) (.vf 134)))),
  (2023035495, 155, (.tf (.ic .eql nordStartsE2_55 (.li 0)) (.vf 124) (.tf (.ic .eql nordStartsE2_55 (.li 1)) (.vf 129) (.vf 134)))),
  (1918378454, 156, (.fb .mul nordStartsE2_52 (.vf 153))),
  (1918378455, 157, (.fb .mul nordStartsE2_52 (.vf 154))),
  (1918378456, 158, (.fb .mul nordStartsE2_52 (.vf 155))),
  (1896683174, 159, (.tf (.ic .eql nordStartsE2_56 (.li 0)) (.vf 119) (.tf (.ic .eql nordStartsE2_56 (.li 1)) (.vf 124) (.vf 129)))),
  (3899687923, 160, (.tf (.ic .eql nordStartsE2_57 (.li 0)) (.vf 119) (.tf (.ic .eql nordStartsE2_57 (.li 1)) (.vf 124) (.vf 129)))),
  (1607725381, 161, (.tf (.ic .eql nordStartsE2_58 (.li 0)) (.vf 119) (.tf (.ic .eql nordStartsE2_58 (.li 1)) (.vf 124) (.vf 129)))),
  (1918378460, 162, (.fb .mul nordStartsE2_52 (.vf 159))),
  (1918378461, 163, (.fb .mul nordStartsE2_52 (.vf 160))),
  (1918378462, 164, (.fb .mul nordStartsE2_52 (.vf 161))),
  (1481373060, 165, (.tf (.ic .eql nordStartsE2_59 (.li 0)) (.vf 114) (.tf (.ic .eql nordStartsE2_59 (.li 1)) (.vf 119) (.vf 124)))),
  (3484377809, 166, (.tf (.ic .eql nordStartsE2_60 (.li 0)) (.vf 114) (.tf (.ic .eql nordStartsE2_60 (.li 1)) (.vf 119) (.vf 124)))),
  (1192415267, 167, (.tf (.ic .eql nordStartsE2_61 (.li 0)) (.vf 114) (.tf (.ic .eql nordStartsE2_61 (.li 1)) (.vf 119) (.vf 124)))),
  (1918378466, 168, (.fb .mul nordStartsE2_52 (.vf 165))),
  (1918378467, 169, (.fb .mul nordStartsE2_52 (.vf 166))),
  (1918378468, 170, (.fb .mul nordStartsE2_52 (.vf 167))),
  (1066062946, 171, (.tf (.ic .eql nordStartsE2_62 (.li 0)) (.vf 109) (.tf (.ic .eql nordStartsE2_62 (.li 1)) (.vf 114) (.vf 119)))),
  (3069067695, 172, (.tf (.ic .eql nordStartsE2_63 (.li 0)) (.vf 109) (.tf (.ic .eql nordStartsE2_63 (.li 1)) (.vf 114) (.vf 119)))),
  (777105153, 173, (.tf (.ic .eql nordStartsE2_64 (.li 0)) (.vf 109) (.tf (.ic .eql nordStartsE2_64 (.li 1)) (.vf 114) (.vf 119)))),
  (1918378472, 174, (.fb .mul nordStartsE2_52 (.vf 171))),
  (1918378473, 175, (.fb .mul nordStartsE2_52 (.vf 172))),
  (1918378474, 176, (.fb .mul nordStartsE2_52 (.vf 173))),
  (650752832, 177, (.tf (.ic .eql nordStartsE2_65 (.li 0)) (.vf 104) (.tf (.ic .eql nordStartsE2_65 (.li 1)) (.vf 109) (.vf 114)))),
  (2653757581, 178, (.tf (.ic .eql nordStartsE2_66 (.li 0)) (.vf 104) (.tf (.ic .eql nordStartsE2_66 (.li 1)) (.vf 109) (.vf 114)))),
  (361795039, 179, (.tf (.ic .eql nordStartsE2_67 (.li 0)) (.vf 104) (.tf (.ic .eql nordStartsE2_67 (.li 1)) (.vf 109) (.vf 114)))),
  (1918378478, 180, (.fb .mul nordStartsE2_52 (.vf 177))),
  (1918378479, 181, (.fb .mul nordStartsE2_52 (.vf 178))),
  (1918378480, 182, (.fb .mul nordStartsE2_52 (.vf 179))),
  (993454763, 183, (.tf (.ic .eql nordStartsE2_68 (.li 0)) nordStartsE2_6 (.tf (.ic .eql nordStartsE2_68 (.li 1)) (.vf 104) (.vf 109)))),
  (2996459512, 184, (.tf (.ic .eql nordStartsE2_69 (.li 0)) nordStartsE2_6 (.tf (.ic .eql nordStartsE2_69 (.li 1)) (.vf 104) (.vf 109)))),
  (704496970, 185, (.tf (.ic .eql nordStartsE2_70 (.li 0)) nordStartsE2_6 (.tf (.ic .eql nordStartsE2_70 (.li 1)) (.vf 104) (.vf 109)))),
  (1918378484, 186, (.fb .mul nordStartsE2_52 (.vf 183))),
  (1918378485, 187, (.fb .mul nordStartsE2_52 (.vf 184))),
  (1918378486, 188, (.fb .mul nordStartsE2_52 (.vf 185))),
  (428838801, 189, (.tf (.ic .eql nordStartsE2_71 (.li 0)) nordStartsE2_5 (.tf (.ic .eql nordStartsE2_71 (.li 1)) nordStartsE2_6 (.vf 104)))),
  (2431843550, 190, (.tf (.ic .eql nordStartsE2_72 (.li 0)) nordStartsE2_5 (.tf (.ic .eql nordStartsE2_72 (.li 1)) nordStartsE2_6 (.vf 104)))),
  (139881008, 191, (.tf (.ic .eql nordStartsE2_73 (.li 0)) nordStartsE2_5 (.tf (.ic .eql nordStartsE2_73 (.li 1)) nordStartsE2_6 (.vf 104)))),
  (1918378490, 192, (.fb .mul nordStartsE2_52 (.vf 189))),
  (1918378491, 193, (.fb .mul nordStartsE2_52 (.vf 190))),
  (1918378492, 194, (.fb .mul nordStartsE2_52 (.vf 191))),
  (88499782, 195, (.tf (.ic .eql nordStartsE2_74 (.li 0)) nordStartsE2_4 (.tf (.ic .eql nordStartsE2_74 (.li 1)) nordStartsE2_5 nordStartsE2_6))),
  (2091504531, 196, (.tf (.ic .eql nordStartsE2_75 (.li 0)) nordStartsE2_4 (.tf (.ic .eql nordStartsE2_75 (.li 1)) nordStartsE2_5 nordStartsE2_6))),
  (4094509280, 197, (.tf (.ic .eql nordStartsE2_76 (.li 0)) nordStartsE2_4 (.tf (.ic .eql nordStartsE2_76 (.li 1)) nordStartsE2_5 nordStartsE2_6))),
  (1918378496, 198, (.fb .mul nordStartsE2_52 (.vf 195))),
  (1918378497, 199, (.fb .mul nordStartsE2_52 (.vf 196))),
  (1918378498, 200, (.fb .mul nordStartsE2_52 (.vf 197)))]
set_option maxRecDepth 1000000 in
set_option maxHeartbeats 100000000 in
theorem nordStartsGood2 : tabGood 100 nordStartsNms2 = true := by kernel_rfl
end Go.Proofs.Ytkncchofgehnpaa
