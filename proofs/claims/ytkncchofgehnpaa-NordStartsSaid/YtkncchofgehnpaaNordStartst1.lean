/-
  'NordStarts': what names stand for, where the first rest is 1.
-/
import Derived.Test.YtkncchofgehnpaaB8t
namespace Go.Proofs.Ytkncchofgehnpaa
open Go.RowKit Ex
def nordStartsE1_0 : E := (.ic .eql (.ai 9 0 (.ci (.at 1 0) (.ci (.li 11) .n0))) (.li 0))
def nordStartsE1_1 : E := (.ti nordStartsE1_0 (.li 0) (.ai 9 0 (.ci (.ib .quo .i64 (.at 1 0) (.li 4)) (.ci (.li 3) .n0))))
def nordStartsE1_2 : E := (.lf 4620693217682128896)
def nordStartsE1_3 : E := (.fb .quo (.i2f (.ib .sub .i64 (.ai 9 0 (.ci (.ti (.ic .lss (.li 0) (.vl 2)) (.at 2 0) (.li 0)) (.ci (.li 65) .n0))) (.li 32))) nordStartsE1_2)
def nordStartsE1_4 : E := (.fb .quo (.i2f (.ib .sub .i64 (.ai 9 0 (.ci (.ti (.ic .lss (.li 1) (.vl 2)) (.at 2 1) (.li 1)) (.ci (.li 65) .n0))) (.li 32))) nordStartsE1_2)
def nordStartsE1_5 : E := (.fb .quo (.i2f (.ib .sub .i64 (.ai 9 0 (.ci (.vi 0) (.ci (.li 17) .n0))) (.li 8))) (.lf 4616189618054758400))
def nordStartsE1_6 : E := (.ti nordStartsE1_0 (.li 0) (.ai 9 0 (.ci (.ib .quo .i64 (.at 1 0) (.li 40)) (.ci (.li 3) .n0))))
def nordStartsE1_7 : E := (.ib .add .i64 (.li 2) (.ai 9 0 (.ci (.at 1 0) (.ci (.li 3) .n0))))
def nordStartsE1_8 : E := (.tf nordStartsE1_0 (.fb .quo (.i2f (.ib .sub .i64 (.ai 9 0 (.ci (.ib .quo .i64 (.at 1 0) (.li 11)) (.ci (.li 33) .n0))) (.li 16))) nordStartsE1_2) (.lf 0))
def nordStartsE1_9 : E := (.ic .eql (.ai 9 0 (.ci (.at 1 1) (.ci (.li 11) .n0))) (.li 0))
def nordStartsE1_10 : E := (.ti nordStartsE1_9 (.li 0) (.ai 9 0 (.ci (.ib .quo .i64 (.at 1 1) (.li 4)) (.ci (.li 4) .n0))))
def nordStartsE1_11 : E := (.ti nordStartsE1_9 (.li 0) (.ai 9 0 (.ci (.ib .quo .i64 (.at 1 1) (.li 40)) (.ci (.li 4) .n0))))
def nordStartsE1_12 : E := (.ib .add .i64 (.li 2) (.ai 9 0 (.ci (.at 1 1) (.ci (.li 3) .n0))))
def nordStartsE1_13 : E := (.tf nordStartsE1_9 (.fb .quo (.i2f (.ib .sub .i64 (.ai 9 0 (.ci (.ib .quo .i64 (.at 1 1) (.li 11)) (.ci (.li 33) .n0))) (.li 16))) nordStartsE1_2) (.lf 0))
def nordStartsE1_14 : E := (.ic .eql (.ai 9 0 (.ci (.at 1 2) (.ci (.li 11) .n0))) (.li 0))
def nordStartsE1_15 : E := (.ti nordStartsE1_14 (.li 0) (.ai 9 0 (.ci (.ib .quo .i64 (.at 1 2) (.li 4)) (.ci (.li 5) .n0))))
def nordStartsE1_16 : E := (.ti nordStartsE1_14 (.li 0) (.ai 9 0 (.ci (.ib .quo .i64 (.at 1 2) (.li 40)) (.ci (.li 5) .n0))))
def nordStartsE1_17 : E := (.ib .add .i64 (.li 2) (.ai 9 0 (.ci (.at 1 2) (.ci (.li 3) .n0))))
def nordStartsE1_18 : E := (.tf nordStartsE1_14 (.fb .quo (.i2f (.ib .sub .i64 (.ai 9 0 (.ci (.ib .quo .i64 (.at 1 2) (.li 11)) (.ci (.li 33) .n0))) (.li 16))) nordStartsE1_2) (.lf 0))
def nordStartsE1_19 : E := (.ic .eql (.ai 9 0 (.ci (.at 1 3) (.ci (.li 11) .n0))) (.li 0))
def nordStartsE1_20 : E := (.ti nordStartsE1_19 (.li 0) (.ai 9 0 (.ci (.ib .quo .i64 (.at 1 3) (.li 4)) (.ci (.li 6) .n0))))
def nordStartsE1_21 : E := (.ti nordStartsE1_19 (.li 0) (.ai 9 0 (.ci (.ib .quo .i64 (.at 1 3) (.li 40)) (.ci (.li 6) .n0))))
def nordStartsE1_22 : E := (.ib .add .i64 (.li 2) (.ai 9 0 (.ci (.at 1 3) (.ci (.li 3) .n0))))
def nordStartsE1_23 : E := (.tf nordStartsE1_19 (.fb .quo (.i2f (.ib .sub .i64 (.ai 9 0 (.ci (.ib .quo .i64 (.at 1 3) (.li 11)) (.ci (.li 33) .n0))) (.li 16))) nordStartsE1_2) (.lf 0))
def nordStartsE1_24 : E := (.ic .eql (.ai 9 0 (.ci (.at 1 4) (.ci (.li 11) .n0))) (.li 0))
def nordStartsE1_25 : E := (.ti nordStartsE1_24 (.li 0) (.ai 9 0 (.ci (.ib .quo .i64 (.at 1 4) (.li 4)) (.ci (.li 7) .n0))))
def nordStartsE1_26 : E := (.ti nordStartsE1_24 (.li 0) (.ai 9 0 (.ci (.ib .quo .i64 (.at 1 4) (.li 40)) (.ci (.li 7) .n0))))
def nordStartsE1_27 : E := (.ib .add .i64 (.li 2) (.ai 9 0 (.ci (.at 1 4) (.ci (.li 3) .n0))))
def nordStartsE1_28 : E := (.tf nordStartsE1_24 (.fb .quo (.i2f (.ib .sub .i64 (.ai 9 0 (.ci (.ib .quo .i64 (.at 1 4) (.li 11)) (.ci (.li 33) .n0))) (.li 16))) nordStartsE1_2) (.lf 0))
def nordStartsE1_29 : E := (.ic .eql (.ai 9 0 (.ci (.at 1 5) (.ci (.li 11) .n0))) (.li 0))
def nordStartsE1_30 : E := (.ti nordStartsE1_29 (.li 0) (.ai 9 0 (.ci (.ib .quo .i64 (.at 1 5) (.li 4)) (.ci (.li 8) .n0))))
def nordStartsE1_31 : E := (.ti nordStartsE1_29 (.li 0) (.ai 9 0 (.ci (.ib .quo .i64 (.at 1 5) (.li 40)) (.ci (.li 8) .n0))))
def nordStartsE1_32 : E := (.ib .add .i64 (.li 2) (.ai 9 0 (.ci (.at 1 5) (.ci (.li 3) .n0))))
def nordStartsE1_33 : E := (.tf nordStartsE1_29 (.fb .quo (.i2f (.ib .sub .i64 (.ai 9 0 (.ci (.ib .quo .i64 (.at 1 5) (.li 11)) (.ci (.li 33) .n0))) (.li 16))) nordStartsE1_2) (.lf 0))
def nordStartsE1_34 : E := (.ic .eql (.ai 9 0 (.ci (.at 1 6) (.ci (.li 11) .n0))) (.li 0))
def nordStartsE1_35 : E := (.ti nordStartsE1_34 (.li 0) (.ai 9 0 (.ci (.ib .quo .i64 (.at 1 6) (.li 4)) (.ci (.li 9) .n0))))
def nordStartsE1_36 : E := (.ti nordStartsE1_34 (.li 0) (.ai 9 0 (.ci (.ib .quo .i64 (.at 1 6) (.li 40)) (.ci (.li 9) .n0))))
def nordStartsE1_37 : E := (.ib .add .i64 (.li 2) (.ai 9 0 (.ci (.at 1 6) (.ci (.li 3) .n0))))
def nordStartsE1_38 : E := (.tf nordStartsE1_34 (.fb .quo (.i2f (.ib .sub .i64 (.ai 9 0 (.ci (.ib .quo .i64 (.at 1 6) (.li 11)) (.ci (.li 33) .n0))) (.li 16))) nordStartsE1_2) (.lf 0))
def nordStartsE1_39 : E := (.ic .eql (.ai 9 0 (.ci (.at 1 7) (.ci (.li 11) .n0))) (.li 0))
def nordStartsE1_40 : E := (.ti nordStartsE1_39 (.li 0) (.ai 9 0 (.ci (.ib .quo .i64 (.at 1 7) (.li 4)) (.ci (.li 10) .n0))))
def nordStartsE1_41 : E := (.ti nordStartsE1_39 (.li 0) (.ai 9 0 (.ci (.ib .quo .i64 (.at 1 7) (.li 40)) (.ci (.li 10) .n0))))
def nordStartsE1_42 : E := (.ib .add .i64 (.li 2) (.ai 9 0 (.ci (.at 1 7) (.ci (.li 3) .n0))))
def nordStartsE1_43 : E := (.tf nordStartsE1_39 (.fb .quo (.i2f (.ib .sub .i64 (.ai 9 0 (.ci (.ib .quo .i64 (.at 1 7) (.li 11)) (.ci (.li 33) .n0))) (.li 16))) nordStartsE1_2) (.lf 0))
def nordStartsE1_44 : E := (.ib .quo .i64 (.vi 0) (.li 3))
def nordStartsE1_45 : E := (.ai 9 0 (.ci (.ib .add .i64 nordStartsE1_44 (.li 0)) (.ci (.li 3) .n0)))
def nordStartsE1_46 : E := (.ib .sub .i64 (.ib .sub .i64 (.li 10) nordStartsE1_45) (.li 8))
def nordStartsE1_47 : E := (.ai 9 0 (.ci (.ib .add .i64 nordStartsE1_44 (.li 1)) (.ci (.li 3) .n0)))
def nordStartsE1_48 : E := (.ib .sub .i64 (.ib .sub .i64 (.li 10) nordStartsE1_47) (.li 8))
def nordStartsE1_49 : E := (.fb .quo (.i2f (.ib .shl .i64 (.li 1) (.iw .i64 (.ai 9 0 (.ci (.vi 3) (.ci (.li 33) .n0)))))) (.lf 4742290407621132288))
def nordStartsE1_50 : E := (.ib .sub .i64 (.ib .sub .i64 (.li 9) nordStartsE1_45) (.li 7))
def nordStartsE1_51 : E := (.ib .sub .i64 (.ib .sub .i64 (.li 9) nordStartsE1_47) (.li 7))
def nordStartsE1_52 : E := (.ib .sub .i64 (.ib .sub .i64 (.li 8) nordStartsE1_45) (.li 6))
def nordStartsE1_53 : E := (.ib .sub .i64 (.ib .sub .i64 (.li 8) nordStartsE1_47) (.li 6))
def nordStartsE1_54 : E := (.ib .sub .i64 (.ib .sub .i64 (.li 7) nordStartsE1_45) (.li 5))
def nordStartsE1_55 : E := (.ib .sub .i64 (.ib .sub .i64 (.li 7) nordStartsE1_47) (.li 5))
def nordStartsE1_56 : E := (.ib .sub .i64 (.ib .sub .i64 (.li 6) nordStartsE1_45) (.li 4))
def nordStartsE1_57 : E := (.ib .sub .i64 (.ib .sub .i64 (.li 6) nordStartsE1_47) (.li 4))
def nordStartsE1_58 : E := (.ib .sub .i64 (.ib .sub .i64 (.li 5) nordStartsE1_45) (.li 3))
def nordStartsE1_59 : E := (.ib .sub .i64 (.ib .sub .i64 (.li 5) nordStartsE1_47) (.li 3))
def nordStartsE1_60 : E := (.ib .sub .i64 (.ib .sub .i64 (.li 4) nordStartsE1_45) (.li 2))
def nordStartsE1_61 : E := (.ib .sub .i64 (.ib .sub .i64 (.li 4) nordStartsE1_47) (.li 2))
def nordStartsE1_62 : E := (.ib .sub .i64 (.ib .sub .i64 (.li 3) nordStartsE1_45) (.li 1))
def nordStartsE1_63 : E := (.ib .sub .i64 (.ib .sub .i64 (.li 3) nordStartsE1_47) (.li 1))
def nordStartsE1_64 : E := (.ib .sub .i64 (.li 2) nordStartsE1_45)
def nordStartsE1_65 : E := (.ib .sub .i64 (.li 2) nordStartsE1_47)
def nordStartsNms1 : Nms := [(1409487856, 100, (.tf (.ic .eql nordStartsE1_1 (.li 0)) nordStartsE1_3 (.tf (.ic .eql nordStartsE1_1 (.li 1)) nordStartsE1_4 nordStartsE1_5))),
  (497320238, 101, (.tf (.ic .eql nordStartsE1_6 (.li 0)) nordStartsE1_3 (.tf (.ic .eql nordStartsE1_6 (.li 1)) nordStartsE1_4 nordStartsE1_5))),
  (635087908, 102, (.tf (.ic .eql nordStartsE1_7 (.li 3)) (.fb .sub (.vf 100) (.vf 101)) (.fb .mul (.vf 100) (.vf 101)))),
  (4003206554, 103, (.tf (.ic .eql nordStartsE1_7 (.li 2)) (.fb .add (.vf 100) (.vf 101)) (.vf 102))),
  (3492500941, 104, (.tf nordStartsE1_0 nordStartsE1_8 (.vf 103))),
  (2176802473, 105, (.tf (.ic .eql nordStartsE1_10 (.li 0)) nordStartsE1_3 (.tf (.ic .eql nordStartsE1_10 (.li 1)) nordStartsE1_4 (.tf (.ic .eql nordStartsE1_10 (.li 2)) nordStartsE1_5 (.vf 104))))),
  (808551046, 106, (.tf (.ic .eql nordStartsE1_11 (.li 0)) nordStartsE1_3 (.tf (.ic .eql nordStartsE1_11 (.li 1)) nordStartsE1_4 (.tf (.ic .eql nordStartsE1_11 (.li 2)) nordStartsE1_5 (.vf 104))))),
  (1983002325, 107, (.tf (.ic .eql nordStartsE1_12 (.li 3)) (.fb .sub (.vf 105) (.vf 106)) (.fb .mul (.vf 105) (.vf 106)))),
  (1051153665, 108, (.tf (.ic .eql nordStartsE1_12 (.li 2)) (.fb .add (.vf 105) (.vf 106)) (.vf 107))),
  (2801171775, 109, (.tf nordStartsE1_9 nordStartsE1_13 (.vf 108))),
  (1128235776, 110, (.tf (.ic .eql nordStartsE1_15 (.li 0)) nordStartsE1_3 (.tf (.ic .eql nordStartsE1_15 (.li 1)) nordStartsE1_4 (.tf (.ic .eql nordStartsE1_15 (.li 2)) nordStartsE1_5 (.tf (.ic .eql nordStartsE1_15 (.li 3)) (.vf 104) (.vf 109)))))),
  (3598867831, 111, (.tf (.ic .eql nordStartsE1_16 (.li 0)) nordStartsE1_3 (.tf (.ic .eql nordStartsE1_16 (.li 1)) nordStartsE1_4 (.tf (.ic .eql nordStartsE1_16 (.li 2)) nordStartsE1_5 (.tf (.ic .eql nordStartsE1_16 (.li 3)) (.vf 104) (.vf 109)))))),
  (3330916742, 112, (.tf (.ic .eql nordStartsE1_17 (.li 3)) (.fb .sub (.vf 110) (.vf 111)) (.fb .mul (.vf 110) (.vf 111)))),
  (2394068067, 113, (.tf (.ic .eql nordStartsE1_17 (.li 2)) (.fb .add (.vf 110) (.vf 111)) (.vf 112))),
  (2109842609, 114, (.tf nordStartsE1_14 nordStartsE1_18 (.vf 113))),
  (1927782383, 115, (.tf (.ic .eql nordStartsE1_20 (.li 0)) nordStartsE1_3 (.tf (.ic .eql nordStartsE1_20 (.li 1)) nordStartsE1_4 (.tf (.ic .eql nordStartsE1_20 (.li 2)) nordStartsE1_5 (.tf (.ic .eql nordStartsE1_20 (.li 3)) (.vf 104) (.tf (.ic .eql nordStartsE1_20 (.li 4)) (.vf 109) (.vf 114))))))),
  (3942330629, 116, (.tf (.ic .eql nordStartsE1_21 (.li 0)) nordStartsE1_3 (.tf (.ic .eql nordStartsE1_21 (.li 1)) nordStartsE1_4 (.tf (.ic .eql nordStartsE1_21 (.li 2)) nordStartsE1_5 (.tf (.ic .eql nordStartsE1_21 (.li 3)) (.vf 104) (.tf (.ic .eql nordStartsE1_21 (.li 4)) (.vf 109) (.vf 114))))))),
  (383863868, 117, (.tf (.ic .eql nordStartsE1_22 (.li 3)) (.fb .sub (.vf 115) (.vf 116)) (.fb .mul (.vf 115) (.vf 116)))),
  (3736982469, 118, (.tf (.ic .eql nordStartsE1_22 (.li 2)) (.fb .add (.vf 115) (.vf 116)) (.vf 117))),
  (1418513443, 119, (.tf nordStartsE1_19 nordStartsE1_23 (.vf 118))),
  (280475003, 120, (.tf (.ic .eql nordStartsE1_25 (.li 0)) nordStartsE1_3 (.tf (.ic .eql nordStartsE1_25 (.li 1)) nordStartsE1_4 (.tf (.ic .eql nordStartsE1_25 (.li 2)) nordStartsE1_5 (.tf (.ic .eql nordStartsE1_25 (.li 3)) (.vf 104) (.tf (.ic .eql nordStartsE1_25 (.li 4)) (.vf 109) (.tf (.ic .eql nordStartsE1_25 (.li 5)) (.vf 114) (.vf 119)))))))),
  (1838939440, 121, (.tf (.ic .eql nordStartsE1_26 (.li 0)) nordStartsE1_3 (.tf (.ic .eql nordStartsE1_26 (.li 1)) nordStartsE1_4 (.tf (.ic .eql nordStartsE1_26 (.li 2)) nordStartsE1_5 (.tf (.ic .eql nordStartsE1_26 (.li 3)) (.vf 104) (.tf (.ic .eql nordStartsE1_26 (.li 4)) (.vf 109) (.tf (.ic .eql nordStartsE1_26 (.li 5)) (.vf 114) (.vf 119)))))))),
  (1731778285, 122, (.tf (.ic .eql nordStartsE1_27 (.li 3)) (.fb .sub (.vf 120) (.vf 121)) (.fb .mul (.vf 120) (.vf 121)))),
  (784929580, 123, (.tf (.ic .eql nordStartsE1_27 (.li 2)) (.fb .add (.vf 120) (.vf 121)) (.vf 122))),
  (727184277, 124, (.tf nordStartsE1_24 nordStartsE1_28 (.vf 123))),
  (481280927, 125, (.tf (.ic .eql nordStartsE1_30 (.li 0)) nordStartsE1_3 (.tf (.ic .eql nordStartsE1_30 (.li 1)) nordStartsE1_4 (.tf (.ic .eql nordStartsE1_30 (.li 2)) nordStartsE1_5 (.tf (.ic .eql nordStartsE1_30 (.li 3)) (.vf 104) (.tf (.ic .eql nordStartsE1_30 (.li 4)) (.vf 109) (.tf (.ic .eql nordStartsE1_30 (.li 5)) (.vf 114) (.tf (.ic .eql nordStartsE1_30 (.li 6)) (.vf 119) (.vf 124))))))))),
  (1583661555, 126, (.tf (.ic .eql nordStartsE1_31 (.li 0)) nordStartsE1_3 (.tf (.ic .eql nordStartsE1_31 (.li 1)) nordStartsE1_4 (.tf (.ic .eql nordStartsE1_31 (.li 2)) nordStartsE1_5 (.tf (.ic .eql nordStartsE1_31 (.li 3)) (.vf 104) (.tf (.ic .eql nordStartsE1_31 (.li 4)) (.vf 109) (.tf (.ic .eql nordStartsE1_31 (.li 5)) (.vf 114) (.tf (.ic .eql nordStartsE1_31 (.li 6)) (.vf 119) (.vf 124))))))))),
  (3079692702, 127, (.tf (.ic .eql nordStartsE1_32 (.li 3)) (.fb .sub (.vf 125) (.vf 126)) (.fb .mul (.vf 125) (.vf 126)))),
  (2127843982, 128, (.tf (.ic .eql nordStartsE1_32 (.li 2)) (.fb .add (.vf 125) (.vf 126)) (.vf 127))),
  (35855111, 129, (.tf nordStartsE1_29 nordStartsE1_33 (.vf 128))),
  (2530200155, 130, (.tf (.ic .eql nordStartsE1_35 (.li 0)) nordStartsE1_3 (.tf (.ic .eql nordStartsE1_35 (.li 1)) nordStartsE1_4 (.tf (.ic .eql nordStartsE1_35 (.li 2)) nordStartsE1_5 (.tf (.ic .eql nordStartsE1_35 (.li 3)) (.vf 104) (.tf (.ic .eql nordStartsE1_35 (.li 4)) (.vf 109) (.tf (.ic .eql nordStartsE1_35 (.li 5)) (.vf 114) (.tf (.ic .eql nordStartsE1_35 (.li 6)) (.vf 119) (.tf (.ic .eql nordStartsE1_35 (.li 7)) (.vf 124) (.vf 129)))))))))),
  (3176496974, 131, (.tf (.ic .eql nordStartsE1_36 (.li 0)) nordStartsE1_3 (.tf (.ic .eql nordStartsE1_36 (.li 1)) nordStartsE1_4 (.tf (.ic .eql nordStartsE1_36 (.li 2)) nordStartsE1_5 (.tf (.ic .eql nordStartsE1_36 (.li 3)) (.vf 104) (.tf (.ic .eql nordStartsE1_36 (.li 4)) (.vf 109) (.tf (.ic .eql nordStartsE1_36 (.li 5)) (.vf 114) (.tf (.ic .eql nordStartsE1_36 (.li 6)) (.vf 119) (.tf (.ic .eql nordStartsE1_36 (.li 7)) (.vf 124) (.vf 129)))))))))),
  (132639828, 132, (.tf (.ic .eql nordStartsE1_37 (.li 3)) (.fb .sub (.vf 130) (.vf 131)) (.fb .mul (.vf 130) (.vf 131)))),
  (3470758384, 133, (.tf (.ic .eql nordStartsE1_37 (.li 2)) (.fb .add (.vf 130) (.vf 131)) (.vf 132))),
  (3639493236, 134, (.tf nordStartsE1_34 nordStartsE1_38 (.vf 133))),
  (2132265396, 135, (.tf (.ic .eql nordStartsE1_40 (.li 0)) nordStartsE1_3 (.tf (.ic .eql nordStartsE1_40 (.li 1)) nordStartsE1_4 (.tf (.ic .eql nordStartsE1_40 (.li 2)) nordStartsE1_5 (.tf (.ic .eql nordStartsE1_40 (.li 3)) (.vf 104) (.tf (.ic .eql nordStartsE1_40 (.li 4)) (.vf 109) (.tf (.ic .eql nordStartsE1_40 (.li 5)) (.vf 114) (.tf (.ic .eql nordStartsE1_40 (.li 6)) (.vf 119) (.tf (.ic .eql nordStartsE1_40 (.li 7)) (.vf 124) (.tf (.ic .eql nordStartsE1_40 (.li 8)) (.vf 129) (.vf 134))))))))))),
  (2322478406, 136, (.tf (.ic .eql nordStartsE1_41 (.li 0)) nordStartsE1_3 (.tf (.ic .eql nordStartsE1_41 (.li 1)) nordStartsE1_4 (.tf (.ic .eql nordStartsE1_41 (.li 2)) nordStartsE1_5 (.tf (.ic .eql nordStartsE1_41 (.li 3)) (.vf 104) (.tf (.ic .eql nordStartsE1_41 (.li 4)) (.vf 109) (.tf (.ic .eql nordStartsE1_41 (.li 5)) (.vf 114) (.tf (.ic .eql nordStartsE1_41 (.li 6)) (.vf 119) (.tf (.ic .eql nordStartsE1_41 (.li 7)) (.vf 124) (.tf (.ic .eql nordStartsE1_41 (.li 8)) (.vf 129) (.vf 134))))))))))),
  (1480554245, 137, (.tf (.ic .eql nordStartsE1_42 (.li 3)) (.fb .sub (.vf 135) (.vf 136)) (.fb .mul (.vf 135) (.vf 136)))),
  (518705495, 138, (.tf (.ic .eql nordStartsE1_42 (.li 2)) (.fb .add (.vf 135) (.vf 136)) (.vf 137))),
  (2948164070, 139, (.tf nordStartsE1_39 nordStartsE1_43 (.vf 138))),
  (2321993323, 140, (.tf (.ic .eql nordStartsE1_46 (.li 0)) (.vf 129) (.tf (.ic .eql nordStartsE1_46 (.li 1)) (.vf 134) (.vf 139)))),
  (30030781, 141, (.tf (.ic .eql nordStartsE1_48 (.li 0)) (.vf 129) (.tf (.ic .eql nordStartsE1_48 (.li 1)) (.vf 134) (.vf 139)))),
  (1918378441, 142, (.fb .mul nordStartsE1_49 (.vf 140))),
  (1918378442, 143, (.fb .mul nordStartsE1_49 (.vf 141))),
  (3385690025, 144, (.tf nordStartsE1_9 nordStartsE1_13 (.tf nordStartsE1_0 nordStartsE1_8 nordStartsE1_5))),
  (2109842640, 145, (.tf nordStartsE1_14 nordStartsE1_18 (.vf 144))),
  (1418513470, 146, (.tf nordStartsE1_19 nordStartsE1_23 (.vf 145))),
  (727184300, 147, (.tf nordStartsE1_24 nordStartsE1_28 (.vf 146))),
  (35855130, 148, (.tf nordStartsE1_29 nordStartsE1_33 (.vf 147))),
  (3639493251, 149, (.tf nordStartsE1_34 nordStartsE1_38 (.vf 148))),
  (2948164081, 150, (.tf nordStartsE1_39 nordStartsE1_43 (.vf 149))),
  (1906683209, 151, (.tf (.ic .eql nordStartsE1_50 (.li 0)) (.vf 124) (.tf (.ic .eql nordStartsE1_50 (.li 1)) (.vf 129) (.vf 134)))),
  (3909687958, 152, (.tf (.ic .eql nordStartsE1_51 (.li 0)) (.vf 124) (.tf (.ic .eql nordStartsE1_51 (.li 1)) (.vf 129) (.vf 134)))),
  (1918378452, 153, (.fb .mul nordStartsE1_49 (.vf 151))),
  (1918378453, 154, (.fb .mul nordStartsE1_49 (.vf 152))),
  (1491373095, 155, (.tf (.ic .eql nordStartsE1_52 (.li 0)) (.vf 119) (.tf (.ic .eql nordStartsE1_52 (.li 1)) (.vf 124) (.vf 129)))),
  (3494377844, 156, (.tf (.ic .eql nordStartsE1_53 (.li 0)) (.vf 119) (.tf (.ic .eql nordStartsE1_53 (.li 1)) (.vf 124) (.vf 129)))),
  (1918378456, 157, (.fb .mul nordStartsE1_49 (.vf 155))),
  (1918378457, 158, (.fb .mul nordStartsE1_49 (.vf 156))),
  (1076062981, 159, (.tf (.ic .eql nordStartsE1_54 (.li 0)) (.vf 114) (.tf (.ic .eql nordStartsE1_54 (.li 1)) (.vf 119) (.vf 124)))),
  (3079067730, 160, (.tf (.ic .eql nordStartsE1_55 (.li 0)) (.vf 114) (.tf (.ic .eql nordStartsE1_55 (.li 1)) (.vf 119) (.vf 124)))),
  (1918378460, 161, (.fb .mul nordStartsE1_49 (.vf 159))),
  (1918378461, 162, (.fb .mul nordStartsE1_49 (.vf 160))),
  (660752867, 163, (.tf (.ic .eql nordStartsE1_56 (.li 0)) (.vf 109) (.tf (.ic .eql nordStartsE1_56 (.li 1)) (.vf 114) (.vf 119)))),
  (2663757616, 164, (.tf (.ic .eql nordStartsE1_57 (.li 0)) (.vf 109) (.tf (.ic .eql nordStartsE1_57 (.li 1)) (.vf 114) (.vf 119)))),
  (1918378464, 165, (.fb .mul nordStartsE1_49 (.vf 163))),
  (1918378465, 166, (.fb .mul nordStartsE1_49 (.vf 164))),
  (245442753, 167, (.tf (.ic .eql nordStartsE1_58 (.li 0)) (.vf 104) (.tf (.ic .eql nordStartsE1_58 (.li 1)) (.vf 109) (.vf 114)))),
  (2248447502, 168, (.tf (.ic .eql nordStartsE1_59 (.li 0)) (.vf 104) (.tf (.ic .eql nordStartsE1_59 (.li 1)) (.vf 109) (.vf 114)))),
  (1918378468, 169, (.fb .mul nordStartsE1_49 (.vf 167))),
  (1918378469, 170, (.fb .mul nordStartsE1_49 (.vf 168))),
  (588144684, 171, (.tf (.ic .eql nordStartsE1_60 (.li 0)) nordStartsE1_5 (.tf (.ic .eql nordStartsE1_60 (.li 1)) (.vf 104) (.vf 109)))),
  (2591149433, 172, (.tf (.ic .eql nordStartsE1_61 (.li 0)) nordStartsE1_5 (.tf (.ic .eql nordStartsE1_61 (.li 1)) (.vf 104) (.vf 109)))),
  (1918378472, 173, (.fb .mul nordStartsE1_49 (.vf 171))),
  (1918378473, 174, (.fb .mul nordStartsE1_49 (.vf 172))),
  (3906800268, 175, (.tf (.ic .eql nordStartsE1_62 (.li 0)) nordStartsE1_4 (.tf (.ic .eql nordStartsE1_62 (.li 1)) nordStartsE1_5 (.vf 104)))),
  (1614837726, 176, (.tf (.ic .eql nordStartsE1_63 (.li 0)) nordStartsE1_4 (.tf (.ic .eql nordStartsE1_63 (.li 1)) nordStartsE1_5 (.vf 104)))),
  (1918378476, 177, (.fb .mul nordStartsE1_49 (.vf 175))),
  (1918378477, 178, (.fb .mul nordStartsE1_49 (.vf 176))),
  (779251237, 179, (.tf (.ic .eql nordStartsE1_64 (.li 0)) nordStartsE1_3 (.tf (.ic .eql nordStartsE1_64 (.li 1)) nordStartsE1_4 nordStartsE1_5))),
  (3378615481, 180, (.tf (.ic .eql nordStartsE1_65 (.li 0)) nordStartsE1_3 (.tf (.ic .eql nordStartsE1_65 (.li 1)) nordStartsE1_4 nordStartsE1_5))),
  (1918378480, 181, (.fb .mul nordStartsE1_49 (.vf 179))),
  (1918378481, 182, (.fb .mul nordStartsE1_49 (.vf 180)))]
set_option maxRecDepth 1000000 in
set_option maxHeartbeats 100000000 in
theorem nordStartsGood1 : tabGood 100 nordStartsNms1 = true := by kernel_rfl
end Go.Proofs.Ytkncchofgehnpaa
