/-
  'JacOwn': runs of it, part 8.
-/
import Derived.Test.YtlgifofnejncpaaJacOwnt2
namespace Go.Proofs.Ytlgifofnejncpaa
open Go.RowKit Ex
set_option maxRecDepth 1000000
set_option maxHeartbeats 100000000
def jom8_0 : E := (.fb .quo (.i2f (.ib .sub .i64 (.ai 9 0 (.ci (.ti (.ic .lss (.li 0) (.vl 2)) (.at 2 0) (.li 0)) (.ci (.li 65) .n0))) (.li 32))) (.lf 4620693217682128896))
def jom8_1 : E := (.fb .quo (.i2f (.ib .sub .i64 (.ai 9 0 (.ci (.ti (.ic .lss (.li 1) (.vl 2)) (.at 2 1) (.li 1)) (.ci (.li 65) .n0))) (.li 32))) (.lf 4620693217682128896))
def jom8_2 : E := (.fb .quo (.i2f (.ib .sub .i64 (.ai 9 0 (.ci (.ti (.ic .lss (.li 2) (.vl 2)) (.at 2 2) (.li 2)) (.ci (.li 65) .n0))) (.li 32))) (.lf 4620693217682128896))
def jom8_3 : E := (.fb .quo (.i2f (.ib .sub .i64 (.ai 9 0 (.ci (.vi 0) (.ci (.li 17) .n0))) (.li 8))) (.lf 4616189618054758400))
def jom8_4 : E := (.ic .eql (.ai 9 0 (.ci (.at 1 0) (.ci (.li 11) .n0))) (.li 0))
def jom8_5 : E := (.ic .eql (.ai 9 0 (.ci (.at 1 0) (.ci (.li 7) .n0))) (.li 0))
def jom8_6 : E := (.ib .add .i64 (.li 2) (.ai 9 0 (.ci (.at 1 0) (.ci (.li 3) .n0))))
def jom8_7 : E := (.ti jom8_5 (.li 5) jom8_6)
def jom8_8 : E := (.ai 9 0 (.ci (.ib .quo .i64 (.at 1 0) (.li 4)) (.ci (.li 4) .n0)))
def jom8_9 : E := (.ai 9 0 (.ci (.ib .quo .i64 (.at 1 0) (.li 40)) (.ci (.li 4) .n0)))
def jom8_10 : E := (.fb .quo (.i2f (.ib .sub .i64 (.ai 9 0 (.ci (.ib .quo .i64 (.at 1 0) (.li 11)) (.ci (.li 33) .n0))) (.li 16))) (.lf 4620693217682128896))
def jom8_11 : E := (.ic .eql jom8_6 (.li 2))
def jom8_12 : E := (.ic .eql jom8_6 (.li 3))
def jom8_13 : E := (.tf jom8_5 (.vf 111) (.tf jom8_11 (.vf 100) (.tf jom8_12 (.vf 102) (.vf 104))))
def jom8_14 : E := (.ic .eql jom8_8 (.li 0))
def jom8_15 : E := (.tf jom8_14 (.lf 4607182418800017408) (.lf 0))
def jom8_16 : E := (.ic .eql jom8_9 (.li 0))
def jom8_17 : E := (.tf jom8_16 (.lf 4607182418800017408) (.lf 0))
def jom8_18 : E := (.tf jom8_5 (.vf 114) (.tf jom8_11 (.fb .add jom8_15 jom8_17) (.tf jom8_12 (.fb .sub jom8_15 jom8_17) (.fb .add (.vf 105) (.vf 106)))))
def jom8_19 : E := (.ic .eql jom8_8 (.li 1))
def jom8_20 : E := (.tf jom8_14 (.lf 0) (.tf jom8_19 (.lf 4607182418800017408) (.lf 0)))
def jom8_21 : E := (.ic .eql jom8_9 (.li 1))
def jom8_22 : E := (.tf jom8_16 (.lf 0) (.tf jom8_21 (.lf 4607182418800017408) (.lf 0)))
def jom8_23 : E := (.tf jom8_5 (.vf 117) (.tf jom8_11 (.fb .add jom8_20 jom8_22) (.tf jom8_12 (.fb .sub jom8_20 jom8_22) (.fb .add (.vf 107) (.vf 108)))))
def jom8_24 : E := (.tf jom8_5 (.vf 120) (.tf jom8_11 (.vf 101) (.tf jom8_12 (.vf 103) (.fb .add (.vf 109) (.vf 110)))))
def jom8_25 : E := (.ic .eql (.ai 9 0 (.ci (.at 1 1) (.ci (.li 11) .n0))) (.li 0))
def jom8_26 : E := (.ic .eql (.ai 9 0 (.ci (.at 1 1) (.ci (.li 7) .n0))) (.li 0))
def jom8_27 : E := (.ib .add .i64 (.li 2) (.ai 9 0 (.ci (.at 1 1) (.ci (.li 3) .n0))))
def jom8_28 : E := (.ti jom8_26 (.li 5) jom8_27)
def jom8_29 : E := (.fb .quo (.i2f (.ib .sub .i64 (.ai 9 0 (.ci (.ib .quo .i64 (.at 1 1) (.li 11)) (.ci (.li 33) .n0))) (.li 16))) (.lf 4620693217682128896))
def jom8_30 : E := (.ic .eql jom8_27 (.li 2))
def jom8_31 : E := (.ic .eql jom8_27 (.li 3))
def jom8_32 : E := (.tf jom8_26 (.fb .quo (.vf 121) (.vf 122)) (.tf jom8_30 (.fb .add (.vf 121) (.vf 122)) (.tf jom8_31 (.fb .sub (.vf 121) (.vf 122)) (.fb .mul (.vf 121) (.vf 122)))))
def jom8_33 : E := (.tf jom8_26 (.vf 129) (.tf jom8_30 (.fb .add (.vf 123) (.vf 124)) (.tf jom8_31 (.fb .sub (.vf 123) (.vf 124)) (.fb .add (.fb .mul (.vf 123) (.vf 122)) (.fb .mul (.vf 121) (.vf 124))))))
def jom8_34 : E := (.tf jom8_26 (.vf 130) (.tf jom8_30 (.fb .add (.vf 125) (.vf 126)) (.tf jom8_31 (.fb .sub (.vf 125) (.vf 126)) (.fb .add (.fb .mul (.vf 125) (.vf 122)) (.fb .mul (.vf 121) (.vf 126))))))
def jom8_35 : E := (.tf jom8_26 (.vf 131) (.tf jom8_30 (.fb .add (.vf 127) (.vf 128)) (.tf jom8_31 (.fb .sub (.vf 127) (.vf 128)) (.fb .add (.fb .mul (.vf 127) (.vf 122)) (.fb .mul (.vf 121) (.vf 128))))))
def jom8_36 : E := (.ic .eql (.ai 9 0 (.ci (.at 1 2) (.ci (.li 11) .n0))) (.li 0))
def jom8_37 : E := (.ic .eql (.ai 9 0 (.ci (.at 1 2) (.ci (.li 7) .n0))) (.li 0))
def jom8_38 : E := (.ib .add .i64 (.li 2) (.ai 9 0 (.ci (.at 1 2) (.ci (.li 3) .n0))))
def jom8_39 : E := (.ti jom8_37 (.li 5) jom8_38)
def jom8_40 : E := (.fb .quo (.i2f (.ib .sub .i64 (.ai 9 0 (.ci (.ib .quo .i64 (.at 1 2) (.li 11)) (.ci (.li 33) .n0))) (.li 16))) (.lf 4620693217682128896))
def jom8_41 : E := (.ic .eql jom8_38 (.li 2))
def jom8_42 : E := (.ic .eql jom8_38 (.li 3))
def jom8_43 : E := (.tf jom8_37 (.fb .quo (.vf 144) (.vf 145)) (.tf jom8_41 (.fb .add (.vf 144) (.vf 145)) (.tf jom8_42 (.fb .sub (.vf 144) (.vf 145)) (.fb .mul (.vf 144) (.vf 145)))))
def jom8_44 : E := (.tf jom8_37 (.vf 152) (.tf jom8_41 (.fb .add (.vf 146) (.vf 147)) (.tf jom8_42 (.fb .sub (.vf 146) (.vf 147)) (.fb .add (.fb .mul (.vf 146) (.vf 145)) (.fb .mul (.vf 144) (.vf 147))))))
def jom8_45 : E := (.tf jom8_37 (.vf 153) (.tf jom8_41 (.fb .add (.vf 148) (.vf 149)) (.tf jom8_42 (.fb .sub (.vf 148) (.vf 149)) (.fb .add (.fb .mul (.vf 148) (.vf 145)) (.fb .mul (.vf 144) (.vf 149))))))
def jom8_46 : E := (.tf jom8_37 (.vf 154) (.tf jom8_41 (.fb .add (.vf 150) (.vf 151)) (.tf jom8_42 (.fb .sub (.vf 150) (.vf 151)) (.fb .add (.fb .mul (.vf 150) (.vf 145)) (.fb .mul (.vf 144) (.vf 151))))))
def jom8_47 : E := (.ic .eql (.ai 9 0 (.ci (.at 1 3) (.ci (.li 11) .n0))) (.li 0))
def jom8_48 : E := (.ic .eql (.ai 9 0 (.ci (.at 1 3) (.ci (.li 7) .n0))) (.li 0))
def jom8_49 : E := (.ib .add .i64 (.li 2) (.ai 9 0 (.ci (.at 1 3) (.ci (.li 3) .n0))))
def jom8_50 : E := (.ti jom8_48 (.li 5) jom8_49)
def jom8_51 : E := (.fb .quo (.i2f (.ib .sub .i64 (.ai 9 0 (.ci (.ib .quo .i64 (.at 1 3) (.li 11)) (.ci (.li 33) .n0))) (.li 16))) (.lf 4620693217682128896))
def jom8_52 : E := (.ic .eql jom8_49 (.li 2))
def jom8_53 : E := (.ic .eql jom8_49 (.li 3))
def jom8_54 : E := (.tf jom8_48 (.fb .quo (.vf 167) (.vf 168)) (.tf jom8_52 (.fb .add (.vf 167) (.vf 168)) (.tf jom8_53 (.fb .sub (.vf 167) (.vf 168)) (.fb .mul (.vf 167) (.vf 168)))))
def jom8_55 : E := (.tf jom8_48 (.vf 175) (.tf jom8_52 (.fb .add (.vf 169) (.vf 170)) (.tf jom8_53 (.fb .sub (.vf 169) (.vf 170)) (.fb .add (.fb .mul (.vf 169) (.vf 168)) (.fb .mul (.vf 167) (.vf 170))))))
def jom8_56 : E := (.tf jom8_48 (.vf 176) (.tf jom8_52 (.fb .add (.vf 171) (.vf 172)) (.tf jom8_53 (.fb .sub (.vf 171) (.vf 172)) (.fb .add (.fb .mul (.vf 171) (.vf 168)) (.fb .mul (.vf 167) (.vf 172))))))
def jom8_57 : E := (.tf jom8_48 (.vf 177) (.tf jom8_52 (.fb .add (.vf 173) (.vf 174)) (.tf jom8_53 (.fb .sub (.vf 173) (.vf 174)) (.fb .add (.fb .mul (.vf 173) (.vf 168)) (.fb .mul (.vf 167) (.vf 174))))))
def jom8_58 : E := (.ic .eql (.ai 9 0 (.ci (.at 1 4) (.ci (.li 11) .n0))) (.li 0))
def jom8_59 : E := (.ic .eql (.ai 9 0 (.ci (.at 1 4) (.ci (.li 7) .n0))) (.li 0))
def jom8_60 : E := (.ib .add .i64 (.li 2) (.ai 9 0 (.ci (.at 1 4) (.ci (.li 3) .n0))))
def jom8_61 : E := (.ti jom8_59 (.li 5) jom8_60)
def jom8_62 : E := (.fb .quo (.i2f (.ib .sub .i64 (.ai 9 0 (.ci (.ib .quo .i64 (.at 1 4) (.li 11)) (.ci (.li 33) .n0))) (.li 16))) (.lf 4620693217682128896))
def jom8_63 : E := (.ic .eql jom8_60 (.li 2))
def jom8_64 : E := (.ic .eql jom8_60 (.li 3))
def jom8_65 : E := (.tf jom8_59 (.fb .quo (.vf 190) (.vf 191)) (.tf jom8_63 (.fb .add (.vf 190) (.vf 191)) (.tf jom8_64 (.fb .sub (.vf 190) (.vf 191)) (.fb .mul (.vf 190) (.vf 191)))))
def jom8_66 : E := (.tf jom8_59 (.vf 198) (.tf jom8_63 (.fb .add (.vf 192) (.vf 193)) (.tf jom8_64 (.fb .sub (.vf 192) (.vf 193)) (.fb .add (.fb .mul (.vf 192) (.vf 191)) (.fb .mul (.vf 190) (.vf 193))))))
def jom8_67 : E := (.tf jom8_59 (.vf 199) (.tf jom8_63 (.fb .add (.vf 194) (.vf 195)) (.tf jom8_64 (.fb .sub (.vf 194) (.vf 195)) (.fb .add (.fb .mul (.vf 194) (.vf 191)) (.fb .mul (.vf 190) (.vf 195))))))
def jom8_68 : E := (.tf jom8_59 (.vf 200) (.tf jom8_63 (.fb .add (.vf 196) (.vf 197)) (.tf jom8_64 (.fb .sub (.vf 196) (.vf 197)) (.fb .add (.fb .mul (.vf 196) (.vf 191)) (.fb .mul (.vf 190) (.vf 197))))))
def jom8_69 : E := (.ic .eql (.ai 9 0 (.ci (.at 1 5) (.ci (.li 11) .n0))) (.li 0))
def jom8_70 : E := (.ic .eql (.ai 9 0 (.ci (.at 1 5) (.ci (.li 7) .n0))) (.li 0))
def jom8_71 : E := (.ib .add .i64 (.li 2) (.ai 9 0 (.ci (.at 1 5) (.ci (.li 3) .n0))))
def jom8_72 : E := (.ti jom8_70 (.li 5) jom8_71)
def jom8_73 : E := (.fb .quo (.i2f (.ib .sub .i64 (.ai 9 0 (.ci (.ib .quo .i64 (.at 1 5) (.li 11)) (.ci (.li 33) .n0))) (.li 16))) (.lf 4620693217682128896))
def jom8_74 : E := (.ic .eql jom8_71 (.li 2))
def jom8_75 : E := (.ic .eql jom8_71 (.li 3))
def jom8_76 : E := (.tf jom8_70 (.fb .quo (.vf 213) (.vf 214)) (.tf jom8_74 (.fb .add (.vf 213) (.vf 214)) (.tf jom8_75 (.fb .sub (.vf 213) (.vf 214)) (.fb .mul (.vf 213) (.vf 214)))))
def jom8_77 : E := (.tf jom8_70 (.vf 221) (.tf jom8_74 (.fb .add (.vf 215) (.vf 216)) (.tf jom8_75 (.fb .sub (.vf 215) (.vf 216)) (.fb .add (.fb .mul (.vf 215) (.vf 214)) (.fb .mul (.vf 213) (.vf 216))))))
def jom8_78 : E := (.tf jom8_70 (.vf 222) (.tf jom8_74 (.fb .add (.vf 217) (.vf 218)) (.tf jom8_75 (.fb .sub (.vf 217) (.vf 218)) (.fb .add (.fb .mul (.vf 217) (.vf 214)) (.fb .mul (.vf 213) (.vf 218))))))
def jom8_79 : E := (.tf jom8_70 (.vf 223) (.tf jom8_74 (.fb .add (.vf 219) (.vf 220)) (.tf jom8_75 (.fb .sub (.vf 219) (.vf 220)) (.fb .add (.fb .mul (.vf 219) (.vf 214)) (.fb .mul (.vf 213) (.vf 220))))))
def jom8_80 : E := (.ic .eql jom8_8 (.li 2))
def jom8_81 : E := (.ic .eql jom8_9 (.li 2))
def jom8_82 : E := (.ic .eql (.ai 9 0 (.ci (.at 1 6) (.ci (.li 11) .n0))) (.li 0))
def jom8_83 : E := (.ic .eql (.ai 9 0 (.ci (.at 1 6) (.ci (.li 7) .n0))) (.li 0))
def jom8_84 : E := (.ib .add .i64 (.li 2) (.ai 9 0 (.ci (.at 1 6) (.ci (.li 3) .n0))))
def jom8_85 : E := (.ti jom8_83 (.li 5) jom8_84)
def jom8_86 : E := (.fb .quo (.i2f (.ib .sub .i64 (.ai 9 0 (.ci (.ib .quo .i64 (.at 1 6) (.li 11)) (.ci (.li 33) .n0))) (.li 16))) (.lf 4620693217682128896))
def jom8_87 : E := (.ic .eql jom8_84 (.li 2))
def jom8_88 : E := (.ic .eql jom8_84 (.li 3))
def jom8_89 : E := (.tf jom8_83 (.fb .quo (.vf 236) (.vf 237)) (.tf jom8_87 (.fb .add (.vf 236) (.vf 237)) (.tf jom8_88 (.fb .sub (.vf 236) (.vf 237)) (.fb .mul (.vf 236) (.vf 237)))))
def jom8_90 : E := (.tf jom8_83 (.vf 244) (.tf jom8_87 (.fb .add (.vf 238) (.vf 239)) (.tf jom8_88 (.fb .sub (.vf 238) (.vf 239)) (.fb .add (.fb .mul (.vf 238) (.vf 237)) (.fb .mul (.vf 236) (.vf 239))))))
def jom8_91 : E := (.tf jom8_83 (.vf 245) (.tf jom8_87 (.fb .add (.vf 240) (.vf 241)) (.tf jom8_88 (.fb .sub (.vf 240) (.vf 241)) (.fb .add (.fb .mul (.vf 240) (.vf 237)) (.fb .mul (.vf 236) (.vf 241))))))
def jom8_92 : E := (.tf jom8_83 (.vf 246) (.tf jom8_87 (.fb .add (.vf 242) (.vf 243)) (.tf jom8_88 (.fb .sub (.vf 242) (.vf 243)) (.fb .add (.fb .mul (.vf 242) (.vf 237)) (.fb .mul (.vf 236) (.vf 243))))))
def jom8_93 : E := (.ic .eql (.ai 9 0 (.ci (.at 1 7) (.ci (.li 11) .n0))) (.li 0))
def jom8_94 : E := (.ic .eql (.ai 9 0 (.ci (.at 1 7) (.ci (.li 7) .n0))) (.li 0))
def jom8_95 : E := (.ib .add .i64 (.li 2) (.ai 9 0 (.ci (.at 1 7) (.ci (.li 3) .n0))))
def jom8_96 : E := (.ti jom8_94 (.li 5) jom8_95)
def jom8_97 : E := (.fb .quo (.i2f (.ib .sub .i64 (.ai 9 0 (.ci (.ib .quo .i64 (.at 1 7) (.li 11)) (.ci (.li 33) .n0))) (.li 16))) (.lf 4620693217682128896))
def jom8_98 : E := (.ic .eql jom8_95 (.li 2))
def jom8_99 : E := (.ic .eql jom8_95 (.li 3))
def jom8_100 : E := (.tf jom8_94 (.fb .quo (.vf 259) (.vf 260)) (.tf jom8_98 (.fb .add (.vf 259) (.vf 260)) (.tf jom8_99 (.fb .sub (.vf 259) (.vf 260)) (.fb .mul (.vf 259) (.vf 260)))))
def jom8_101 : E := (.tf jom8_94 (.vf 267) (.tf jom8_98 (.fb .add (.vf 261) (.vf 262)) (.tf jom8_99 (.fb .sub (.vf 261) (.vf 262)) (.fb .add (.fb .mul (.vf 261) (.vf 260)) (.fb .mul (.vf 259) (.vf 262))))))
def jom8_102 : E := (.tf jom8_94 (.vf 268) (.tf jom8_98 (.fb .add (.vf 263) (.vf 264)) (.tf jom8_99 (.fb .sub (.vf 263) (.vf 264)) (.fb .add (.fb .mul (.vf 263) (.vf 260)) (.fb .mul (.vf 259) (.vf 264))))))
def jom8_103 : E := (.tf jom8_94 (.vf 269) (.tf jom8_98 (.fb .add (.vf 265) (.vf 266)) (.tf jom8_99 (.fb .sub (.vf 265) (.vf 266)) (.fb .add (.fb .mul (.vf 265) (.vf 260)) (.fb .mul (.vf 259) (.vf 266))))))
def jok8_0 : Blk := [(.f 0), .sl0, (.f 0), .sl0]
def jok8_1 : Blk := [(.ef jom8_0), (.sl 78 0 3 (.n 3)), (.ef jom8_1), (.sl 77 0 3 (.n 3))]
def jok8_2 : Blk := [(.ef jom8_2), (.sl 76 0 3 (.n 3)), (.ef jom8_3), (.sl 100 0 3 (.n 3))]
def jok8_3 : Blk := [(.ef (.tf jom8_4 jom8_10 jom8_13)), (.sl 106 0 3 (.n 3)), (.ef (.tf jom8_25 jom8_29 jom8_32)), (.sl 115 0 3 (.n 3))]
def jok8_4 : Blk := [(.ef (.tf jom8_36 jom8_40 jom8_43)), (.sl 124 0 3 (.n 3)), (.ef (.tf jom8_47 jom8_51 jom8_54)), (.sl 133 0 3 (.n 3))]
def jok8_5 : Blk := [(.ef jom8_0), (.sl 190 0 3 (.n 3)), (.ef jom8_1), (.sl 189 0 3 (.n 3))]
def jok8_6 : Blk := [(.ef jom8_2), (.sl 188 0 3 (.n 3)), (.ef jom8_3), (.sl 212 0 3 (.n 3))]
def jok8_7 : Blk := [(.ef (.tf jom8_4 jom8_10 jom8_13)), (.sl 218 0 3 (.n 3)), (.ef (.tf jom8_25 jom8_29 jom8_32)), (.sl 227 0 3 (.n 3))]
def jok8_8 : Blk := [(.ef (.tf jom8_36 jom8_40 jom8_43)), (.sl 236 0 3 (.n 3)), (.ef (.tf jom8_47 jom8_51 jom8_54)), (.sl 245 0 3 (.n 3))]
def jok8_9 : Blk := [(.ef jom8_0), (.sl 86 0 3 (.n 3)), (.ef jom8_1), (.sl 85 0 3 (.n 3))]
def jok8_10 : Blk := [(.ef jom8_2), (.sl 84 0 3 (.n 3)), (.ef jom8_3), (.sl 108 0 3 (.n 3))]
def jok8_11 : Blk := [(.ef (.tf jom8_4 jom8_10 jom8_13)), (.sl 114 0 3 (.n 3)), (.ef (.tf jom8_25 jom8_29 jom8_32)), (.sl 123 0 3 (.n 3))]
def jok8_12 : Blk := [(.ef (.tf jom8_36 jom8_40 jom8_43)), (.sl 132 0 3 (.n 3)), (.ef (.tf jom8_47 jom8_51 jom8_54)), (.sl 141 0 3 (.n 3))]
def jok8_13 : Blk := [(.ef (.tf jom8_58 jom8_62 jom8_65)), (.sl 150 0 3 (.n 3)), (.ef (.tf jom8_69 jom8_73 jom8_76)), (.sl 159 0 3 (.n 3))]
def jok8_14 : Blk := [(.ef jom8_0), (.sl 218 0 3 (.n 3)), (.ef jom8_1), (.sl 217 0 3 (.n 3))]
def jok8_15 : Blk := [(.ef jom8_2), (.sl 216 0 3 (.n 3)), (.ef jom8_3), (.sl 240 0 3 (.n 3))]
def jok8_16 : Blk := [(.ef (.tf jom8_4 jom8_10 jom8_13)), (.sl 246 0 3 (.n 3)), (.ef (.tf jom8_25 jom8_29 jom8_32)), (.sl 255 0 3 (.n 3))]
def jok8_17 : Blk := [(.ef (.tf jom8_36 jom8_40 jom8_43)), (.sl 264 0 3 (.n 3)), (.ef (.tf jom8_47 jom8_51 jom8_54)), (.sl 273 0 3 (.n 3))]
def jok8_18 : Blk := [(.ef (.tf jom8_58 jom8_62 jom8_65)), (.sl 282 0 3 (.n 3)), (.ef (.tf jom8_69 jom8_73 jom8_76)), (.sl 291 0 3 (.n 3))]
def job8_0 : Blk := [(.f 0), (.f 0), (.f 4607182418800017408)]
def job8_1 : Blk := [(.f 0), (.f 4607182418800017408), (.f 0)]
def job8_2 : Blk := [(.f 4607182418800017408), (.f 0), (.f 0)]
def job8_3 : Blk := [(.ef jom8_0), (.sl 78 0 3 (.n 3)), (.ef jom8_1), (.sl 77 0 3 (.n 3)), (.ef jom8_2), (.sl 76 0 3 (.n 3))]
def job8_4 : Blk := jok8_0 ++ jok8_0 ++ jok8_0 ++ jok8_0 ++ jok8_0
def job8_5 : Blk := [(.ef jom8_0), (.sl 78 0 3 (.n 3)), (.f 0), .sl0] ++ jok8_0 ++ jok8_0 ++ jok8_0 ++ jok8_0
def job8_6 : Blk := jok8_1 ++ jok8_0 ++ jok8_0 ++ jok8_0 ++ jok8_0
def job8_7 : Blk := jok8_1 ++ [(.ef jom8_2), (.sl 76 0 3 (.n 3)), (.f 0), .sl0] ++ jok8_0 ++ jok8_0 ++ jok8_0
def job8_8 : Blk := [(.f 0), (.f 0), (.f 0)]
def job8_9 : Blk := jok8_1 ++ jok8_2 ++ jok8_0 ++ jok8_0 ++ jok8_0
def job8_10 : Blk := [(.ef (.tf jom8_4 (.lf 0) jom8_18)), (.ef (.tf jom8_4 (.lf 0) jom8_23)), (.ef (.tf jom8_4 (.lf 0) jom8_24))]
def job8_11 : Blk := jok8_1 ++ jok8_2 ++ [(.ef (.tf jom8_4 jom8_10 jom8_13)), (.sl 106 0 3 (.n 3)), (.f 0), .sl0] ++ jok8_0 ++ jok8_0
def job8_12 : Blk := [(.ef (.tf jom8_25 (.lf 0) jom8_33)), (.ef (.tf jom8_25 (.lf 0) jom8_34)), (.ef (.tf jom8_25 (.lf 0) jom8_35))]
def job8_13 : Blk := jok8_1 ++ jok8_2 ++ jok8_3 ++ jok8_0 ++ jok8_0
def job8_14 : Blk := [(.ef (.tf jom8_36 (.lf 0) jom8_44)), (.ef (.tf jom8_36 (.lf 0) jom8_45)), (.ef (.tf jom8_36 (.lf 0) jom8_46))]
def job8_15 : Blk := jok8_1 ++ jok8_2 ++ jok8_3 ++ [(.ef (.tf jom8_36 jom8_40 jom8_43)), (.sl 124 0 3 (.n 3)), (.f 0), .sl0] ++ jok8_0
def job8_16 : Blk := [(.ef (.tf jom8_47 (.lf 0) jom8_55)), (.ef (.tf jom8_47 (.lf 0) jom8_56)), (.ef (.tf jom8_47 (.lf 0) jom8_57))]
def job8_17 : Blk := jok8_1 ++ jok8_2 ++ jok8_3 ++ jok8_4 ++ jok8_0
def job8_18 : Blk := [(.ef (.tf jom8_58 (.lf 0) jom8_66)), (.ef (.tf jom8_58 (.lf 0) jom8_67)), (.ef (.tf jom8_58 (.lf 0) jom8_68))]
def job8_19 : Blk := jok8_1 ++ jok8_2 ++ jok8_3 ++ jok8_4 ++ [(.ef (.tf jom8_58 jom8_62 jom8_65)), (.sl 142 0 3 (.n 3)), (.f 0), .sl0]
def job8_20 : Blk := [(.ef (.tf jom8_69 (.lf 0) jom8_77)), (.ef (.tf jom8_69 (.lf 0) jom8_78)), (.ef (.tf jom8_69 (.lf 0) jom8_79))]
def job8_21 : Blk := [(.ef jom8_0), (.sl 190 0 3 (.n 3)), (.ef jom8_1), (.sl 189 0 3 (.n 3)), (.ef jom8_2), (.sl 188 0 3 (.n 3))]
def job8_22 : Blk := [(.ef jom8_0), (.sl 190 0 3 (.n 3)), (.f 0), .sl0] ++ jok8_0 ++ jok8_0 ++ jok8_0 ++ jok8_0
def job8_23 : Blk := jok8_5 ++ jok8_0 ++ jok8_0 ++ jok8_0 ++ jok8_0
def job8_24 : Blk := jok8_5 ++ [(.ef jom8_2), (.sl 188 0 3 (.n 3)), (.f 0), .sl0] ++ jok8_0 ++ jok8_0 ++ jok8_0
def job8_25 : Blk := jok8_5 ++ jok8_6 ++ jok8_0 ++ jok8_0 ++ jok8_0
def job8_26 : Blk := jok8_5 ++ jok8_6 ++ [(.ef (.tf jom8_4 jom8_10 jom8_13)), (.sl 218 0 3 (.n 3)), (.f 0), .sl0] ++ jok8_0 ++ jok8_0
def job8_27 : Blk := jok8_5 ++ jok8_6 ++ jok8_7 ++ jok8_0 ++ jok8_0
def job8_28 : Blk := jok8_5 ++ jok8_6 ++ jok8_7 ++ [(.ef (.tf jom8_36 jom8_40 jom8_43)), (.sl 236 0 3 (.n 3)), (.f 0), .sl0] ++ jok8_0
def job8_29 : Blk := jok8_5 ++ jok8_6 ++ jok8_7 ++ jok8_8 ++ jok8_0
def job8_30 : Blk := jok8_5 ++ jok8_6 ++ jok8_7 ++ jok8_8 ++ [(.ef (.tf jom8_58 jom8_62 jom8_65)), (.sl 254 0 3 (.n 3)), (.f 0), .sl0]
def job8_31 : Blk := [(.ef jom8_0), (.sl 82 0 3 (.n 3)), (.ef jom8_1), (.sl 81 0 3 (.n 3)), (.ef jom8_2), (.sl 80 0 3 (.n 3))]
def job8_32 : Blk := [(.f 0), .sl0, (.f 0), .sl0, (.f 0), .sl0, (.f 0), .sl0, (.f 0), .sl0, (.f 0), .sl0, (.f 0), .sl0, (.f 0), .sl0, (.f 0), .sl0, (.f 0), .sl0, (.f 0), .sl0]
def job8_33 : Blk := [(.ef jom8_0), (.sl 82 0 3 (.n 3)), (.f 0), .sl0, (.f 0), .sl0, (.f 0), .sl0, (.f 0), .sl0, (.f 0), .sl0, (.f 0), .sl0, (.f 0), .sl0, (.f 0), .sl0, (.f 0), .sl0, (.f 0), .sl0]
def job8_34 : Blk := [(.ef jom8_0), (.sl 82 0 3 (.n 3)), (.ef jom8_1), (.sl 81 0 3 (.n 3)), (.f 0), .sl0, (.f 0), .sl0, (.f 0), .sl0, (.f 0), .sl0, (.f 0), .sl0, (.f 0), .sl0, (.f 0), .sl0, (.f 0), .sl0, (.f 0), .sl0]
def job8_35 : Blk := [(.ef jom8_0), (.sl 82 0 3 (.n 3)), (.ef jom8_1), (.sl 81 0 3 (.n 3)), (.ef jom8_2), (.sl 80 0 3 (.n 3)), (.f 0), .sl0, (.f 0), .sl0, (.f 0), .sl0, (.f 0), .sl0, (.f 0), .sl0, (.f 0), .sl0, (.f 0), .sl0, (.f 0), .sl0]
def job8_36 : Blk := [(.ef jom8_0), (.sl 82 0 3 (.n 3)), (.ef jom8_1), (.sl 81 0 3 (.n 3)), (.ef jom8_2), (.sl 80 0 3 (.n 3)), (.ef jom8_3), (.sl 104 0 3 (.n 3)), (.f 0), .sl0, (.f 0), .sl0, (.f 0), .sl0, (.f 0), .sl0, (.f 0), .sl0, (.f 0), .sl0, (.f 0), .sl0]
def job8_37 : Blk := [(.ef jom8_0), (.sl 82 0 3 (.n 3)), (.ef jom8_1), (.sl 81 0 3 (.n 3)), (.ef jom8_2), (.sl 80 0 3 (.n 3)), (.ef jom8_3), (.sl 104 0 3 (.n 3)), (.ef (.tf jom8_4 jom8_10 jom8_13)), (.sl 110 0 3 (.n 3)), (.f 0), .sl0, (.f 0), .sl0, (.f 0), .sl0, (.f 0), .sl0, (.f 0), .sl0, (.f 0), .sl0]
def job8_38 : Blk := [(.ef jom8_0), (.sl 82 0 3 (.n 3)), (.ef jom8_1), (.sl 81 0 3 (.n 3)), (.ef jom8_2), (.sl 80 0 3 (.n 3)), (.ef jom8_3), (.sl 104 0 3 (.n 3)), (.ef (.tf jom8_4 jom8_10 jom8_13)), (.sl 110 0 3 (.n 3)), (.ef (.tf jom8_25 jom8_29 jom8_32)), (.sl 119 0 3 (.n 3)), (.f 0), .sl0, (.f 0), .sl0, (.f 0), .sl0, (.f 0), .sl0, (.f 0), .sl0]
def job8_39 : Blk := [(.ef jom8_0), (.sl 82 0 3 (.n 3)), (.ef jom8_1), (.sl 81 0 3 (.n 3)), (.ef jom8_2), (.sl 80 0 3 (.n 3)), (.ef jom8_3), (.sl 104 0 3 (.n 3)), (.ef (.tf jom8_4 jom8_10 jom8_13)), (.sl 110 0 3 (.n 3)), (.ef (.tf jom8_25 jom8_29 jom8_32)), (.sl 119 0 3 (.n 3)), (.ef (.tf jom8_36 jom8_40 jom8_43)), (.sl 128 0 3 (.n 3)), (.f 0), .sl0, (.f 0), .sl0, (.f 0), .sl0, (.f 0), .sl0]
def job8_40 : Blk := [(.ef jom8_0), (.sl 82 0 3 (.n 3)), (.ef jom8_1), (.sl 81 0 3 (.n 3)), (.ef jom8_2), (.sl 80 0 3 (.n 3)), (.ef jom8_3), (.sl 104 0 3 (.n 3)), (.ef (.tf jom8_4 jom8_10 jom8_13)), (.sl 110 0 3 (.n 3)), (.ef (.tf jom8_25 jom8_29 jom8_32)), (.sl 119 0 3 (.n 3)), (.ef (.tf jom8_36 jom8_40 jom8_43)), (.sl 128 0 3 (.n 3)), (.ef (.tf jom8_47 jom8_51 jom8_54)), (.sl 137 0 3 (.n 3)), (.f 0), .sl0, (.f 0), .sl0, (.f 0), .sl0]
def job8_41 : Blk := [(.ef jom8_0), (.sl 82 0 3 (.n 3)), (.ef jom8_1), (.sl 81 0 3 (.n 3)), (.ef jom8_2), (.sl 80 0 3 (.n 3)), (.ef jom8_3), (.sl 104 0 3 (.n 3)), (.ef (.tf jom8_4 jom8_10 jom8_13)), (.sl 110 0 3 (.n 3)), (.ef (.tf jom8_25 jom8_29 jom8_32)), (.sl 119 0 3 (.n 3)), (.ef (.tf jom8_36 jom8_40 jom8_43)), (.sl 128 0 3 (.n 3)), (.ef (.tf jom8_47 jom8_51 jom8_54)), (.sl 137 0 3 (.n 3)), (.ef (.tf jom8_58 jom8_62 jom8_65)), (.sl 146 0 3 (.n 3)), (.f 0), .sl0, (.f 0), .sl0]
def job8_42 : Blk := [(.ef jom8_0), (.sl 82 0 3 (.n 3)), (.ef jom8_1), (.sl 81 0 3 (.n 3)), (.ef jom8_2), (.sl 80 0 3 (.n 3)), (.ef jom8_3), (.sl 104 0 3 (.n 3)), (.ef (.tf jom8_4 jom8_10 jom8_13)), (.sl 110 0 3 (.n 3)), (.ef (.tf jom8_25 jom8_29 jom8_32)), (.sl 119 0 3 (.n 3)), (.ef (.tf jom8_36 jom8_40 jom8_43)), (.sl 128 0 3 (.n 3)), (.ef (.tf jom8_47 jom8_51 jom8_54)), (.sl 137 0 3 (.n 3)), (.ef (.tf jom8_58 jom8_62 jom8_65)), (.sl 146 0 3 (.n 3)), (.ef (.tf jom8_69 jom8_73 jom8_76)), (.sl 155 0 3 (.n 3)), (.f 0), .sl0]
def job8_43 : Blk := [(.ef (.tf jom8_82 (.lf 0) jom8_90)), (.ef (.tf jom8_82 (.lf 0) jom8_91)), (.ef (.tf jom8_82 (.lf 0) jom8_92))]
def job8_44 : Blk := [(.ef jom8_0), (.sl 204 0 3 (.n 3)), (.ef jom8_1), (.sl 203 0 3 (.n 3)), (.ef jom8_2), (.sl 202 0 3 (.n 3))]
def job8_45 : Blk := [(.ef jom8_0), (.sl 204 0 3 (.n 3)), (.f 0), .sl0, (.f 0), .sl0, (.f 0), .sl0, (.f 0), .sl0, (.f 0), .sl0, (.f 0), .sl0, (.f 0), .sl0, (.f 0), .sl0, (.f 0), .sl0, (.f 0), .sl0]
def job8_46 : Blk := [(.ef jom8_0), (.sl 204 0 3 (.n 3)), (.ef jom8_1), (.sl 203 0 3 (.n 3)), (.f 0), .sl0, (.f 0), .sl0, (.f 0), .sl0, (.f 0), .sl0, (.f 0), .sl0, (.f 0), .sl0, (.f 0), .sl0, (.f 0), .sl0, (.f 0), .sl0]
def job8_47 : Blk := [(.ef jom8_0), (.sl 204 0 3 (.n 3)), (.ef jom8_1), (.sl 203 0 3 (.n 3)), (.ef jom8_2), (.sl 202 0 3 (.n 3)), (.f 0), .sl0, (.f 0), .sl0, (.f 0), .sl0, (.f 0), .sl0, (.f 0), .sl0, (.f 0), .sl0, (.f 0), .sl0, (.f 0), .sl0]
def job8_48 : Blk := [(.ef jom8_0), (.sl 204 0 3 (.n 3)), (.ef jom8_1), (.sl 203 0 3 (.n 3)), (.ef jom8_2), (.sl 202 0 3 (.n 3)), (.ef jom8_3), (.sl 226 0 3 (.n 3)), (.f 0), .sl0, (.f 0), .sl0, (.f 0), .sl0, (.f 0), .sl0, (.f 0), .sl0, (.f 0), .sl0, (.f 0), .sl0]
def job8_49 : Blk := [(.ef jom8_0), (.sl 204 0 3 (.n 3)), (.ef jom8_1), (.sl 203 0 3 (.n 3)), (.ef jom8_2), (.sl 202 0 3 (.n 3)), (.ef jom8_3), (.sl 226 0 3 (.n 3)), (.ef (.tf jom8_4 jom8_10 jom8_13)), (.sl 232 0 3 (.n 3)), (.f 0), .sl0, (.f 0), .sl0, (.f 0), .sl0, (.f 0), .sl0, (.f 0), .sl0, (.f 0), .sl0]
def job8_50 : Blk := [(.ef jom8_0), (.sl 204 0 3 (.n 3)), (.ef jom8_1), (.sl 203 0 3 (.n 3)), (.ef jom8_2), (.sl 202 0 3 (.n 3)), (.ef jom8_3), (.sl 226 0 3 (.n 3)), (.ef (.tf jom8_4 jom8_10 jom8_13)), (.sl 232 0 3 (.n 3)), (.ef (.tf jom8_25 jom8_29 jom8_32)), (.sl 241 0 3 (.n 3)), (.f 0), .sl0, (.f 0), .sl0, (.f 0), .sl0, (.f 0), .sl0, (.f 0), .sl0]
def job8_51 : Blk := [(.ef jom8_0), (.sl 204 0 3 (.n 3)), (.ef jom8_1), (.sl 203 0 3 (.n 3)), (.ef jom8_2), (.sl 202 0 3 (.n 3)), (.ef jom8_3), (.sl 226 0 3 (.n 3)), (.ef (.tf jom8_4 jom8_10 jom8_13)), (.sl 232 0 3 (.n 3)), (.ef (.tf jom8_25 jom8_29 jom8_32)), (.sl 241 0 3 (.n 3)), (.ef (.tf jom8_36 jom8_40 jom8_43)), (.sl 250 0 3 (.n 3)), (.f 0), .sl0, (.f 0), .sl0, (.f 0), .sl0, (.f 0), .sl0]
def job8_52 : Blk := [(.ef jom8_0), (.sl 204 0 3 (.n 3)), (.ef jom8_1), (.sl 203 0 3 (.n 3)), (.ef jom8_2), (.sl 202 0 3 (.n 3)), (.ef jom8_3), (.sl 226 0 3 (.n 3)), (.ef (.tf jom8_4 jom8_10 jom8_13)), (.sl 232 0 3 (.n 3)), (.ef (.tf jom8_25 jom8_29 jom8_32)), (.sl 241 0 3 (.n 3)), (.ef (.tf jom8_36 jom8_40 jom8_43)), (.sl 250 0 3 (.n 3)), (.ef (.tf jom8_47 jom8_51 jom8_54)), (.sl 259 0 3 (.n 3)), (.f 0), .sl0, (.f 0), .sl0, (.f 0), .sl0]
def job8_53 : Blk := [(.ef jom8_0), (.sl 204 0 3 (.n 3)), (.ef jom8_1), (.sl 203 0 3 (.n 3)), (.ef jom8_2), (.sl 202 0 3 (.n 3)), (.ef jom8_3), (.sl 226 0 3 (.n 3)), (.ef (.tf jom8_4 jom8_10 jom8_13)), (.sl 232 0 3 (.n 3)), (.ef (.tf jom8_25 jom8_29 jom8_32)), (.sl 241 0 3 (.n 3)), (.ef (.tf jom8_36 jom8_40 jom8_43)), (.sl 250 0 3 (.n 3)), (.ef (.tf jom8_47 jom8_51 jom8_54)), (.sl 259 0 3 (.n 3)), (.ef (.tf jom8_58 jom8_62 jom8_65)), (.sl 268 0 3 (.n 3)), (.f 0), .sl0, (.f 0), .sl0]
def job8_54 : Blk := [(.ef jom8_0), (.sl 204 0 3 (.n 3)), (.ef jom8_1), (.sl 203 0 3 (.n 3)), (.ef jom8_2), (.sl 202 0 3 (.n 3)), (.ef jom8_3), (.sl 226 0 3 (.n 3)), (.ef (.tf jom8_4 jom8_10 jom8_13)), (.sl 232 0 3 (.n 3)), (.ef (.tf jom8_25 jom8_29 jom8_32)), (.sl 241 0 3 (.n 3)), (.ef (.tf jom8_36 jom8_40 jom8_43)), (.sl 250 0 3 (.n 3)), (.ef (.tf jom8_47 jom8_51 jom8_54)), (.sl 259 0 3 (.n 3)), (.ef (.tf jom8_58 jom8_62 jom8_65)), (.sl 268 0 3 (.n 3)), (.ef (.tf jom8_69 jom8_73 jom8_76)), (.sl 277 0 3 (.n 3)), (.f 0), .sl0]
def job8_55 : Blk := [(.ef jom8_0), (.sl 86 0 3 (.n 3)), (.ef jom8_1), (.sl 85 0 3 (.n 3)), (.ef jom8_2), (.sl 84 0 3 (.n 3))]
def job8_56 : Blk := jok8_0 ++ jok8_0 ++ jok8_0 ++ jok8_0 ++ jok8_0 ++ jok8_0
def job8_57 : Blk := [(.ef jom8_0), (.sl 86 0 3 (.n 3)), (.f 0), .sl0] ++ jok8_0 ++ jok8_0 ++ jok8_0 ++ jok8_0 ++ jok8_0
def job8_58 : Blk := jok8_9 ++ jok8_0 ++ jok8_0 ++ jok8_0 ++ jok8_0 ++ jok8_0
def job8_59 : Blk := jok8_9 ++ [(.ef jom8_2), (.sl 84 0 3 (.n 3)), (.f 0), .sl0] ++ jok8_0 ++ jok8_0 ++ jok8_0 ++ jok8_0
def job8_60 : Blk := jok8_9 ++ jok8_10 ++ jok8_0 ++ jok8_0 ++ jok8_0 ++ jok8_0
def job8_61 : Blk := jok8_9 ++ jok8_10 ++ [(.ef (.tf jom8_4 jom8_10 jom8_13)), (.sl 114 0 3 (.n 3)), (.f 0), .sl0] ++ jok8_0 ++ jok8_0 ++ jok8_0
def job8_62 : Blk := jok8_9 ++ jok8_10 ++ jok8_11 ++ jok8_0 ++ jok8_0 ++ jok8_0
def job8_63 : Blk := jok8_9 ++ jok8_10 ++ jok8_11 ++ [(.ef (.tf jom8_36 jom8_40 jom8_43)), (.sl 132 0 3 (.n 3)), (.f 0), .sl0] ++ jok8_0 ++ jok8_0
def job8_64 : Blk := jok8_9 ++ jok8_10 ++ jok8_11 ++ jok8_12 ++ jok8_0 ++ jok8_0
def job8_65 : Blk := jok8_9 ++ jok8_10 ++ jok8_11 ++ jok8_12 ++ [(.ef (.tf jom8_58 jom8_62 jom8_65)), (.sl 150 0 3 (.n 3)), (.f 0), .sl0] ++ jok8_0
def job8_66 : Blk := jok8_9 ++ jok8_10 ++ jok8_11 ++ jok8_12 ++ jok8_13 ++ jok8_0
def job8_67 : Blk := jok8_9 ++ jok8_10 ++ jok8_11 ++ jok8_12 ++ jok8_13 ++ [(.ef (.tf jom8_82 jom8_86 jom8_89)), (.sl 168 0 3 (.n 3)), (.f 0), .sl0]
def job8_68 : Blk := [(.ef (.tf jom8_93 (.lf 0) jom8_101)), (.ef (.tf jom8_93 (.lf 0) jom8_102)), (.ef (.tf jom8_93 (.lf 0) jom8_103))]
def job8_69 : Blk := [(.ef jom8_0), (.sl 218 0 3 (.n 3)), (.ef jom8_1), (.sl 217 0 3 (.n 3)), (.ef jom8_2), (.sl 216 0 3 (.n 3))]
def job8_70 : Blk := [(.ef jom8_0), (.sl 218 0 3 (.n 3)), (.f 0), .sl0] ++ jok8_0 ++ jok8_0 ++ jok8_0 ++ jok8_0 ++ jok8_0
def job8_71 : Blk := jok8_14 ++ jok8_0 ++ jok8_0 ++ jok8_0 ++ jok8_0 ++ jok8_0
def job8_72 : Blk := jok8_14 ++ [(.ef jom8_2), (.sl 216 0 3 (.n 3)), (.f 0), .sl0] ++ jok8_0 ++ jok8_0 ++ jok8_0 ++ jok8_0
def job8_73 : Blk := jok8_14 ++ jok8_15 ++ jok8_0 ++ jok8_0 ++ jok8_0 ++ jok8_0
def job8_74 : Blk := jok8_14 ++ jok8_15 ++ [(.ef (.tf jom8_4 jom8_10 jom8_13)), (.sl 246 0 3 (.n 3)), (.f 0), .sl0] ++ jok8_0 ++ jok8_0 ++ jok8_0
def job8_75 : Blk := jok8_14 ++ jok8_15 ++ jok8_16 ++ jok8_0 ++ jok8_0 ++ jok8_0
def job8_76 : Blk := jok8_14 ++ jok8_15 ++ jok8_16 ++ [(.ef (.tf jom8_36 jom8_40 jom8_43)), (.sl 264 0 3 (.n 3)), (.f 0), .sl0] ++ jok8_0 ++ jok8_0
def job8_77 : Blk := jok8_14 ++ jok8_15 ++ jok8_16 ++ jok8_17 ++ jok8_0 ++ jok8_0
def job8_78 : Blk := jok8_14 ++ jok8_15 ++ jok8_16 ++ jok8_17 ++ [(.ef (.tf jom8_58 jom8_62 jom8_65)), (.sl 282 0 3 (.n 3)), (.f 0), .sl0] ++ jok8_0
def job8_79 : Blk := jok8_14 ++ jok8_15 ++ jok8_16 ++ jok8_17 ++ jok8_18 ++ jok8_0
def job8_80 : Blk := jok8_14 ++ jok8_15 ++ jok8_16 ++ jok8_17 ++ jok8_18 ++ [(.ef (.tf jom8_82 jom8_86 jom8_89)), (.sl 300 0 3 (.n 3)), (.f 0), .sl0]
def jo2_6m0 : Memo := (⟨[(.ag [(.fn 66 [(74, 0), (73, 0)]), (.fn 69 [(74, 0), (73, 0)]), (.fn 71 [(74, 0), (73, 0)]), (.fn 73 [(74, 0), (73, 0)]), (.fn 75 [(74, 0), (73, 0)])]), (.ag [(.i .i64 1), (.i .i64 0), (.i .i64 0), (.f 0)]), (.c (.sl 79 0 3 (.n 3))), (.c (.sl 86 0 10 (.n 10)))], [(73, [(.i .i64 3)]), (74, [(.fn 47 []), (.fn 48 []), (.fn 49 []), (.fn 50 []), (.fn 51 [])]), (76, job8_0), (77, job8_1), (78, job8_2), (79, job8_3), (86, job8_4)], 88, (.ag [(.ef jom8_0), (.sl 78 0 3 (.n 3))]), [(73, [(.i .i64 3)]), (74, [(.fn 47 []), (.fn 48 []), (.fn 49 []), (.fn 50 []), (.fn 51 [])]), (76, job8_0), (77, job8_1), (78, job8_2), (79, job8_3), (86, job8_4)], 91⟩)
theorem jo2_6o0 : mok [] (lenL 1 6 8 ++ []) joN2 77 jo2_6m0 = true := by kernel_rfl
def jo2_6m1 : Memo := (⟨[(.ag [(.fn 66 [(74, 0), (73, 0)]), (.fn 69 [(74, 0), (73, 0)]), (.fn 71 [(74, 0), (73, 0)]), (.fn 73 [(74, 0), (73, 0)]), (.fn 75 [(74, 0), (73, 0)])]), (.ag [(.i .i64 1), (.i .i64 1), (.i .i64 0), (.f 0)]), (.c (.sl 79 0 3 (.n 3))), (.c (.sl 86 0 10 (.n 10)))], [(73, [(.i .i64 3)]), (74, [(.fn 47 []), (.fn 48 []), (.fn 49 []), (.fn 50 []), (.fn 51 [])]), (76, job8_0), (77, job8_1), (78, job8_2), (79, job8_3), (86, job8_5)], 92, (.ag [(.ef jom8_1), (.sl 77 0 3 (.n 3))]), [(73, [(.i .i64 3)]), (74, [(.fn 47 []), (.fn 48 []), (.fn 49 []), (.fn 50 []), (.fn 51 [])]), (76, job8_0), (77, job8_1), (78, job8_2), (79, job8_3), (86, job8_5)], 95⟩)
theorem jo2_6o1 : mok [] (lenL 1 6 8 ++ []) joN2 77 jo2_6m1 = true := by kernel_rfl
def jo2_6m2 : Memo := (⟨[(.ag [(.fn 66 [(74, 0), (73, 0)]), (.fn 69 [(74, 0), (73, 0)]), (.fn 71 [(74, 0), (73, 0)]), (.fn 73 [(74, 0), (73, 0)]), (.fn 75 [(74, 0), (73, 0)])]), (.ag [(.i .i64 1), (.i .i64 2), (.i .i64 0), (.f 0)]), (.c (.sl 79 0 3 (.n 3))), (.c (.sl 86 0 10 (.n 10)))], [(73, [(.i .i64 3)]), (74, [(.fn 47 []), (.fn 48 []), (.fn 49 []), (.fn 50 []), (.fn 51 [])]), (76, job8_0), (77, job8_1), (78, job8_2), (79, job8_3), (86, job8_6)], 96, (.ag [(.ef jom8_2), (.sl 76 0 3 (.n 3))]), [(73, [(.i .i64 3)]), (74, [(.fn 47 []), (.fn 48 []), (.fn 49 []), (.fn 50 []), (.fn 51 [])]), (76, job8_0), (77, job8_1), (78, job8_2), (79, job8_3), (86, job8_6)], 99⟩)
theorem jo2_6o2 : mok [] (lenL 1 6 8 ++ []) joN2 77 jo2_6m2 = true := by kernel_rfl
def jo2_6m3 : Memo := mkM [(.ag [(.fn 66 [(74, 0), (73, 0)]), (.fn 69 [(74, 0), (73, 0)]), (.fn 71 [(74, 0), (73, 0)]), (.fn 73 [(74, 0), (73, 0)]), (.fn 75 [(74, 0), (73, 0)])]), (.ag [(.i .i64 0), (.i .i64 0), (.i .i64 0), (.ef jom8_3)]), (.c (.sl 79 0 3 (.n 3))), (.c (.sl 86 0 10 (.n 10)))] [(73, [(.i .i64 3)]), (74, [(.fn 47 []), (.fn 48 []), (.fn 49 []), (.fn 50 []), (.fn 51 [])]), (76, job8_0), (77, job8_1), (78, job8_2), (79, job8_3), (86, job8_7)] 100 (.ag [(.ef jom8_3), (.sl 103 0 3 (.n 3))]) (103, job8_8) 105
theorem jo2_6o3 : mok [] (lenL 1 6 8 ++ []) joN2 77 jo2_6m3 = true := by kernel_rfl
def jo2_6m4 : Memo := mkM [(.ag [(.fn 66 [(74, 0), (73, 0)]), (.fn 69 [(74, 0), (73, 0)]), (.fn 71 [(74, 0), (73, 0)]), (.fn 73 [(74, 0), (73, 0)]), (.fn 75 [(74, 0), (73, 0)])]), (.ag [(.ei .i64 (.ti jom8_4 (.li 0) jom8_7)), (.ei .i64 (.ti jom8_4 (.li 0) jom8_8)), (.ei .i64 (.ti jom8_4 (.li 0) jom8_9)), (.ef (.tf jom8_4 jom8_10 (.lf 0)))]), (.c (.sl 79 0 3 (.n 3))), (.c (.sl 86 0 10 (.n 10)))] [(73, [(.i .i64 3)]), (74, [(.fn 47 []), (.fn 48 []), (.fn 49 []), (.fn 50 []), (.fn 51 [])]), (76, job8_0), (77, job8_1), (78, job8_2), (79, job8_3), (86, job8_9), (100, job8_8)] 106 (.ag [(.ef (.tf jom8_4 jom8_10 jom8_13)), (.sl 109 0 3 (.n 3))]) (109, job8_10) 114
theorem jo2_6o4 : mok [] (lenL 1 6 8 ++ []) joN2 77 jo2_6m4 = true := by kernel_rfl
def jo2_6m5 : Memo := mkM [(.ag [(.fn 66 [(74, 0), (73, 0)]), (.fn 69 [(74, 0), (73, 0)]), (.fn 71 [(74, 0), (73, 0)]), (.fn 73 [(74, 0), (73, 0)]), (.fn 75 [(74, 0), (73, 0)])]), (.ag [(.ei .i64 (.ti jom8_25 (.li 0) jom8_28)), (.ei .i64 (.ti jom8_25 (.li 0) (.ai 9 0 (.ci (.ib .quo .i64 (.at 1 1) (.li 4)) (.ci (.li 5) .n0))))), (.ei .i64 (.ti jom8_25 (.li 0) (.ai 9 0 (.ci (.ib .quo .i64 (.at 1 1) (.li 40)) (.ci (.li 5) .n0))))), (.ef (.tf jom8_25 jom8_29 (.lf 0)))]), (.c (.sl 79 0 3 (.n 3))), (.c (.sl 86 0 10 (.n 10)))] [(73, [(.i .i64 3)]), (74, [(.fn 47 []), (.fn 48 []), (.fn 49 []), (.fn 50 []), (.fn 51 [])]), (76, job8_0), (77, job8_1), (78, job8_2), (79, job8_3), (86, job8_11), (100, job8_8), (106, job8_10)] 115 (.ag [(.ef (.tf jom8_25 jom8_29 jom8_32)), (.sl 118 0 3 (.n 3))]) (118, job8_12) 123
theorem jo2_6o5 : mok [] (lenL 1 6 8 ++ []) joN2 77 jo2_6m5 = true := by kernel_rfl
def jo2_6m6 : Memo := mkM [(.ag [(.fn 66 [(74, 0), (73, 0)]), (.fn 69 [(74, 0), (73, 0)]), (.fn 71 [(74, 0), (73, 0)]), (.fn 73 [(74, 0), (73, 0)]), (.fn 75 [(74, 0), (73, 0)])]), (.ag [(.ei .i64 (.ti jom8_36 (.li 0) jom8_39)), (.ei .i64 (.ti jom8_36 (.li 0) (.ai 9 0 (.ci (.ib .quo .i64 (.at 1 2) (.li 4)) (.ci (.li 6) .n0))))), (.ei .i64 (.ti jom8_36 (.li 0) (.ai 9 0 (.ci (.ib .quo .i64 (.at 1 2) (.li 40)) (.ci (.li 6) .n0))))), (.ef (.tf jom8_36 jom8_40 (.lf 0)))]), (.c (.sl 79 0 3 (.n 3))), (.c (.sl 86 0 10 (.n 10)))] [(73, [(.i .i64 3)]), (74, [(.fn 47 []), (.fn 48 []), (.fn 49 []), (.fn 50 []), (.fn 51 [])]), (76, job8_0), (77, job8_1), (78, job8_2), (79, job8_3), (86, job8_13), (100, job8_8), (106, job8_10), (115, job8_12)] 124 (.ag [(.ef (.tf jom8_36 jom8_40 jom8_43)), (.sl 127 0 3 (.n 3))]) (127, job8_14) 132
theorem jo2_6o6 : mok [] (lenL 1 6 8 ++ []) joN2 77 jo2_6m6 = true := by kernel_rfl
def jo2_6m7 : Memo := mkM [(.ag [(.fn 66 [(74, 0), (73, 0)]), (.fn 69 [(74, 0), (73, 0)]), (.fn 71 [(74, 0), (73, 0)]), (.fn 73 [(74, 0), (73, 0)]), (.fn 75 [(74, 0), (73, 0)])]), (.ag [(.ei .i64 (.ti jom8_47 (.li 0) jom8_50)), (.ei .i64 (.ti jom8_47 (.li 0) (.ai 9 0 (.ci (.ib .quo .i64 (.at 1 3) (.li 4)) (.ci (.li 7) .n0))))), (.ei .i64 (.ti jom8_47 (.li 0) (.ai 9 0 (.ci (.ib .quo .i64 (.at 1 3) (.li 40)) (.ci (.li 7) .n0))))), (.ef (.tf jom8_47 jom8_51 (.lf 0)))]), (.c (.sl 79 0 3 (.n 3))), (.c (.sl 86 0 10 (.n 10)))] [(73, [(.i .i64 3)]), (74, [(.fn 47 []), (.fn 48 []), (.fn 49 []), (.fn 50 []), (.fn 51 [])]), (76, job8_0), (77, job8_1), (78, job8_2), (79, job8_3), (86, job8_15), (100, job8_8), (106, job8_10), (115, job8_12), (124, job8_14)] 133 (.ag [(.ef (.tf jom8_47 jom8_51 jom8_54)), (.sl 136 0 3 (.n 3))]) (136, job8_16) 141
theorem jo2_6o7 : mok [] (lenL 1 6 8 ++ []) joN2 77 jo2_6m7 = true := by kernel_rfl
def jo2_6m8 : Memo := mkM [(.ag [(.fn 66 [(74, 0), (73, 0)]), (.fn 69 [(74, 0), (73, 0)]), (.fn 71 [(74, 0), (73, 0)]), (.fn 73 [(74, 0), (73, 0)]), (.fn 75 [(74, 0), (73, 0)])]), (.ag [(.ei .i64 (.ti jom8_58 (.li 0) jom8_61)), (.ei .i64 (.ti jom8_58 (.li 0) (.ai 9 0 (.ci (.ib .quo .i64 (.at 1 4) (.li 4)) (.ci (.li 8) .n0))))), (.ei .i64 (.ti jom8_58 (.li 0) (.ai 9 0 (.ci (.ib .quo .i64 (.at 1 4) (.li 40)) (.ci (.li 8) .n0))))), (.ef (.tf jom8_58 jom8_62 (.lf 0)))]), (.c (.sl 79 0 3 (.n 3))), (.c (.sl 86 0 10 (.n 10)))] [(73, [(.i .i64 3)]), (74, [(.fn 47 []), (.fn 48 []), (.fn 49 []), (.fn 50 []), (.fn 51 [])]), (76, job8_0), (77, job8_1), (78, job8_2), (79, job8_3), (86, job8_17), (100, job8_8), (106, job8_10), (115, job8_12), (124, job8_14), (133, job8_16)] 142 (.ag [(.ef (.tf jom8_58 jom8_62 jom8_65)), (.sl 145 0 3 (.n 3))]) (145, job8_18) 150
theorem jo2_6o8 : mok [] (lenL 1 6 8 ++ []) joN2 77 jo2_6m8 = true := by kernel_rfl
def jo2_6m9 : Memo := mkM [(.ag [(.fn 66 [(74, 0), (73, 0)]), (.fn 69 [(74, 0), (73, 0)]), (.fn 71 [(74, 0), (73, 0)]), (.fn 73 [(74, 0), (73, 0)]), (.fn 75 [(74, 0), (73, 0)])]), (.ag [(.ei .i64 (.ti jom8_69 (.li 0) jom8_72)), (.ei .i64 (.ti jom8_69 (.li 0) (.ai 9 0 (.ci (.ib .quo .i64 (.at 1 5) (.li 4)) (.ci (.li 9) .n0))))), (.ei .i64 (.ti jom8_69 (.li 0) (.ai 9 0 (.ci (.ib .quo .i64 (.at 1 5) (.li 40)) (.ci (.li 9) .n0))))), (.ef (.tf jom8_69 jom8_73 (.lf 0)))]), (.c (.sl 79 0 3 (.n 3))), (.c (.sl 86 0 10 (.n 10)))] [(73, [(.i .i64 3)]), (74, [(.fn 47 []), (.fn 48 []), (.fn 49 []), (.fn 50 []), (.fn 51 [])]), (76, job8_0), (77, job8_1), (78, job8_2), (79, job8_3), (86, job8_19), (100, job8_8), (106, job8_10), (115, job8_12), (124, job8_14), (133, job8_16), (142, job8_18)] 151 (.ag [(.ef (.tf jom8_69 jom8_73 jom8_76)), (.sl 154 0 3 (.n 3))]) (154, job8_20) 159
theorem jo2_6o9 : mok [] (lenL 1 6 8 ++ []) joN2 77 jo2_6m9 = true := by kernel_rfl
def jo2_6m10 : Memo := (⟨[(.ag [(.fn 66 [(186, 0), (185, 0)]), (.fn 69 [(186, 0), (185, 0)]), (.fn 71 [(186, 0), (185, 0)]), (.fn 73 [(186, 0), (185, 0)]), (.fn 75 [(186, 0), (185, 0)])]), (.ag [(.i .i64 1), (.i .i64 0), (.i .i64 0), (.f 0)]), (.c (.sl 191 0 3 (.n 3))), (.c (.sl 198 0 10 (.n 10)))], [(185, [(.i .i64 3)]), (186, [(.fn 47 []), (.fn 48 []), (.fn 49 []), (.fn 50 []), (.fn 51 [])]), (188, job8_0), (189, job8_1), (190, job8_2), (191, job8_21), (198, job8_4)], 200, (.ag [(.ef jom8_0), (.sl 190 0 3 (.n 3))]), [(185, [(.i .i64 3)]), (186, [(.fn 47 []), (.fn 48 []), (.fn 49 []), (.fn 50 []), (.fn 51 [])]), (188, job8_0), (189, job8_1), (190, job8_2), (191, job8_21), (198, job8_4)], 203⟩)
theorem jo2_6o10 : mok [] (lenL 1 6 8 ++ []) joN2 77 jo2_6m10 = true := by kernel_rfl
def jo2_6m11 : Memo := (⟨[(.ag [(.fn 66 [(186, 0), (185, 0)]), (.fn 69 [(186, 0), (185, 0)]), (.fn 71 [(186, 0), (185, 0)]), (.fn 73 [(186, 0), (185, 0)]), (.fn 75 [(186, 0), (185, 0)])]), (.ag [(.i .i64 1), (.i .i64 1), (.i .i64 0), (.f 0)]), (.c (.sl 191 0 3 (.n 3))), (.c (.sl 198 0 10 (.n 10)))], [(185, [(.i .i64 3)]), (186, [(.fn 47 []), (.fn 48 []), (.fn 49 []), (.fn 50 []), (.fn 51 [])]), (188, job8_0), (189, job8_1), (190, job8_2), (191, job8_21), (198, job8_22)], 204, (.ag [(.ef jom8_1), (.sl 189 0 3 (.n 3))]), [(185, [(.i .i64 3)]), (186, [(.fn 47 []), (.fn 48 []), (.fn 49 []), (.fn 50 []), (.fn 51 [])]), (188, job8_0), (189, job8_1), (190, job8_2), (191, job8_21), (198, job8_22)], 207⟩)
theorem jo2_6o11 : mok [] (lenL 1 6 8 ++ []) joN2 77 jo2_6m11 = true := by kernel_rfl
def jo2_6m12 : Memo := (⟨[(.ag [(.fn 66 [(186, 0), (185, 0)]), (.fn 69 [(186, 0), (185, 0)]), (.fn 71 [(186, 0), (185, 0)]), (.fn 73 [(186, 0), (185, 0)]), (.fn 75 [(186, 0), (185, 0)])]), (.ag [(.i .i64 1), (.i .i64 2), (.i .i64 0), (.f 0)]), (.c (.sl 191 0 3 (.n 3))), (.c (.sl 198 0 10 (.n 10)))], [(185, [(.i .i64 3)]), (186, [(.fn 47 []), (.fn 48 []), (.fn 49 []), (.fn 50 []), (.fn 51 [])]), (188, job8_0), (189, job8_1), (190, job8_2), (191, job8_21), (198, job8_23)], 208, (.ag [(.ef jom8_2), (.sl 188 0 3 (.n 3))]), [(185, [(.i .i64 3)]), (186, [(.fn 47 []), (.fn 48 []), (.fn 49 []), (.fn 50 []), (.fn 51 [])]), (188, job8_0), (189, job8_1), (190, job8_2), (191, job8_21), (198, job8_23)], 211⟩)
theorem jo2_6o12 : mok [] (lenL 1 6 8 ++ []) joN2 77 jo2_6m12 = true := by kernel_rfl
def jo2_6m13 : Memo := mkM [(.ag [(.fn 66 [(186, 0), (185, 0)]), (.fn 69 [(186, 0), (185, 0)]), (.fn 71 [(186, 0), (185, 0)]), (.fn 73 [(186, 0), (185, 0)]), (.fn 75 [(186, 0), (185, 0)])]), (.ag [(.i .i64 0), (.i .i64 0), (.i .i64 0), (.ef jom8_3)]), (.c (.sl 191 0 3 (.n 3))), (.c (.sl 198 0 10 (.n 10)))] [(185, [(.i .i64 3)]), (186, [(.fn 47 []), (.fn 48 []), (.fn 49 []), (.fn 50 []), (.fn 51 [])]), (188, job8_0), (189, job8_1), (190, job8_2), (191, job8_21), (198, job8_24)] 212 (.ag [(.ef jom8_3), (.sl 215 0 3 (.n 3))]) (215, job8_8) 217
theorem jo2_6o13 : mok [] (lenL 1 6 8 ++ []) joN2 77 jo2_6m13 = true := by kernel_rfl
def jo2_6m14 : Memo := mkM [(.ag [(.fn 66 [(186, 0), (185, 0)]), (.fn 69 [(186, 0), (185, 0)]), (.fn 71 [(186, 0), (185, 0)]), (.fn 73 [(186, 0), (185, 0)]), (.fn 75 [(186, 0), (185, 0)])]), (.ag [(.ei .i64 (.ti jom8_4 (.li 0) jom8_7)), (.ei .i64 (.ti jom8_4 (.li 0) jom8_8)), (.ei .i64 (.ti jom8_4 (.li 0) jom8_9)), (.ef (.tf jom8_4 jom8_10 (.lf 0)))]), (.c (.sl 191 0 3 (.n 3))), (.c (.sl 198 0 10 (.n 10)))] [(185, [(.i .i64 3)]), (186, [(.fn 47 []), (.fn 48 []), (.fn 49 []), (.fn 50 []), (.fn 51 [])]), (188, job8_0), (189, job8_1), (190, job8_2), (191, job8_21), (198, job8_25), (212, job8_8)] 218 (.ag [(.ef (.tf jom8_4 jom8_10 jom8_13)), (.sl 221 0 3 (.n 3))]) (221, job8_10) 226
theorem jo2_6o14 : mok [] (lenL 1 6 8 ++ []) joN2 77 jo2_6m14 = true := by kernel_rfl
def jo2_6m15 : Memo := mkM [(.ag [(.fn 66 [(186, 0), (185, 0)]), (.fn 69 [(186, 0), (185, 0)]), (.fn 71 [(186, 0), (185, 0)]), (.fn 73 [(186, 0), (185, 0)]), (.fn 75 [(186, 0), (185, 0)])]), (.ag [(.ei .i64 (.ti jom8_25 (.li 0) jom8_28)), (.ei .i64 (.ti jom8_25 (.li 0) (.ai 9 0 (.ci (.ib .quo .i64 (.at 1 1) (.li 4)) (.ci (.li 5) .n0))))), (.ei .i64 (.ti jom8_25 (.li 0) (.ai 9 0 (.ci (.ib .quo .i64 (.at 1 1) (.li 40)) (.ci (.li 5) .n0))))), (.ef (.tf jom8_25 jom8_29 (.lf 0)))]), (.c (.sl 191 0 3 (.n 3))), (.c (.sl 198 0 10 (.n 10)))] [(185, [(.i .i64 3)]), (186, [(.fn 47 []), (.fn 48 []), (.fn 49 []), (.fn 50 []), (.fn 51 [])]), (188, job8_0), (189, job8_1), (190, job8_2), (191, job8_21), (198, job8_26), (212, job8_8), (218, job8_10)] 227 (.ag [(.ef (.tf jom8_25 jom8_29 jom8_32)), (.sl 230 0 3 (.n 3))]) (230, job8_12) 235
theorem jo2_6o15 : mok [] (lenL 1 6 8 ++ []) joN2 77 jo2_6m15 = true := by kernel_rfl
def jo2_6m16 : Memo := mkM [(.ag [(.fn 66 [(186, 0), (185, 0)]), (.fn 69 [(186, 0), (185, 0)]), (.fn 71 [(186, 0), (185, 0)]), (.fn 73 [(186, 0), (185, 0)]), (.fn 75 [(186, 0), (185, 0)])]), (.ag [(.ei .i64 (.ti jom8_36 (.li 0) jom8_39)), (.ei .i64 (.ti jom8_36 (.li 0) (.ai 9 0 (.ci (.ib .quo .i64 (.at 1 2) (.li 4)) (.ci (.li 6) .n0))))), (.ei .i64 (.ti jom8_36 (.li 0) (.ai 9 0 (.ci (.ib .quo .i64 (.at 1 2) (.li 40)) (.ci (.li 6) .n0))))), (.ef (.tf jom8_36 jom8_40 (.lf 0)))]), (.c (.sl 191 0 3 (.n 3))), (.c (.sl 198 0 10 (.n 10)))] [(185, [(.i .i64 3)]), (186, [(.fn 47 []), (.fn 48 []), (.fn 49 []), (.fn 50 []), (.fn 51 [])]), (188, job8_0), (189, job8_1), (190, job8_2), (191, job8_21), (198, job8_27), (212, job8_8), (218, job8_10), (227, job8_12)] 236 (.ag [(.ef (.tf jom8_36 jom8_40 jom8_43)), (.sl 239 0 3 (.n 3))]) (239, job8_14) 244
theorem jo2_6o16 : mok [] (lenL 1 6 8 ++ []) joN2 77 jo2_6m16 = true := by kernel_rfl
def jo2_6m17 : Memo := mkM [(.ag [(.fn 66 [(186, 0), (185, 0)]), (.fn 69 [(186, 0), (185, 0)]), (.fn 71 [(186, 0), (185, 0)]), (.fn 73 [(186, 0), (185, 0)]), (.fn 75 [(186, 0), (185, 0)])]), (.ag [(.ei .i64 (.ti jom8_47 (.li 0) jom8_50)), (.ei .i64 (.ti jom8_47 (.li 0) (.ai 9 0 (.ci (.ib .quo .i64 (.at 1 3) (.li 4)) (.ci (.li 7) .n0))))), (.ei .i64 (.ti jom8_47 (.li 0) (.ai 9 0 (.ci (.ib .quo .i64 (.at 1 3) (.li 40)) (.ci (.li 7) .n0))))), (.ef (.tf jom8_47 jom8_51 (.lf 0)))]), (.c (.sl 191 0 3 (.n 3))), (.c (.sl 198 0 10 (.n 10)))] [(185, [(.i .i64 3)]), (186, [(.fn 47 []), (.fn 48 []), (.fn 49 []), (.fn 50 []), (.fn 51 [])]), (188, job8_0), (189, job8_1), (190, job8_2), (191, job8_21), (198, job8_28), (212, job8_8), (218, job8_10), (227, job8_12), (236, job8_14)] 245 (.ag [(.ef (.tf jom8_47 jom8_51 jom8_54)), (.sl 248 0 3 (.n 3))]) (248, job8_16) 253
theorem jo2_6o17 : mok [] (lenL 1 6 8 ++ []) joN2 77 jo2_6m17 = true := by kernel_rfl
def jo2_6m18 : Memo := mkM [(.ag [(.fn 66 [(186, 0), (185, 0)]), (.fn 69 [(186, 0), (185, 0)]), (.fn 71 [(186, 0), (185, 0)]), (.fn 73 [(186, 0), (185, 0)]), (.fn 75 [(186, 0), (185, 0)])]), (.ag [(.ei .i64 (.ti jom8_58 (.li 0) jom8_61)), (.ei .i64 (.ti jom8_58 (.li 0) (.ai 9 0 (.ci (.ib .quo .i64 (.at 1 4) (.li 4)) (.ci (.li 8) .n0))))), (.ei .i64 (.ti jom8_58 (.li 0) (.ai 9 0 (.ci (.ib .quo .i64 (.at 1 4) (.li 40)) (.ci (.li 8) .n0))))), (.ef (.tf jom8_58 jom8_62 (.lf 0)))]), (.c (.sl 191 0 3 (.n 3))), (.c (.sl 198 0 10 (.n 10)))] [(185, [(.i .i64 3)]), (186, [(.fn 47 []), (.fn 48 []), (.fn 49 []), (.fn 50 []), (.fn 51 [])]), (188, job8_0), (189, job8_1), (190, job8_2), (191, job8_21), (198, job8_29), (212, job8_8), (218, job8_10), (227, job8_12), (236, job8_14), (245, job8_16)] 254 (.ag [(.ef (.tf jom8_58 jom8_62 jom8_65)), (.sl 257 0 3 (.n 3))]) (257, job8_18) 262
theorem jo2_6o18 : mok [] (lenL 1 6 8 ++ []) joN2 77 jo2_6m18 = true := by kernel_rfl
def jo2_6m19 : Memo := mkM [(.ag [(.fn 66 [(186, 0), (185, 0)]), (.fn 69 [(186, 0), (185, 0)]), (.fn 71 [(186, 0), (185, 0)]), (.fn 73 [(186, 0), (185, 0)]), (.fn 75 [(186, 0), (185, 0)])]), (.ag [(.ei .i64 (.ti jom8_69 (.li 0) jom8_72)), (.ei .i64 (.ti jom8_69 (.li 0) (.ai 9 0 (.ci (.ib .quo .i64 (.at 1 5) (.li 4)) (.ci (.li 9) .n0))))), (.ei .i64 (.ti jom8_69 (.li 0) (.ai 9 0 (.ci (.ib .quo .i64 (.at 1 5) (.li 40)) (.ci (.li 9) .n0))))), (.ef (.tf jom8_69 jom8_73 (.lf 0)))]), (.c (.sl 191 0 3 (.n 3))), (.c (.sl 198 0 10 (.n 10)))] [(185, [(.i .i64 3)]), (186, [(.fn 47 []), (.fn 48 []), (.fn 49 []), (.fn 50 []), (.fn 51 [])]), (188, job8_0), (189, job8_1), (190, job8_2), (191, job8_21), (198, job8_30), (212, job8_8), (218, job8_10), (227, job8_12), (236, job8_14), (245, job8_16), (254, job8_18)] 263 (.ag [(.ef (.tf jom8_69 jom8_73 jom8_76)), (.sl 266 0 3 (.n 3))]) (266, job8_20) 271
theorem jo2_6o19 : mok [] (lenL 1 6 8 ++ []) joN2 77 jo2_6m19 = true := by kernel_rfl
def jo2_6m20 : Memo := (⟨[(.c (.ei .i64 jom8_7)), (.c (.ef (.tf jom8_14 jom8_0 (.tf jom8_19 jom8_1 (.tf jom8_80 jom8_2 jom8_3))))), (.c (.ef (.tf jom8_16 jom8_0 (.tf jom8_21 jom8_1 (.tf jom8_81 jom8_2 jom8_3))))), (.c (.ef jom8_13)), (.c (.ef jom8_15)), (.c (.ef jom8_17))], [], 328, (.c (.ef jom8_18)), [], 328⟩)
theorem jo2_6o20 : mok [] (lenL 1 6 8 ++ []) joN2 36 jo2_6m20 = true := by kernel_rfl
def jo2_6m21 : Memo := (⟨[(.c (.ei .i64 jom8_7)), (.c (.ef (.tf jom8_14 jom8_0 (.tf jom8_19 jom8_1 (.tf jom8_80 jom8_2 jom8_3))))), (.c (.ef (.tf jom8_16 jom8_0 (.tf jom8_21 jom8_1 (.tf jom8_81 jom8_2 jom8_3))))), (.c (.ef jom8_13)), (.c (.ef jom8_20)), (.c (.ef jom8_22))], [], 328, (.c (.ef jom8_23)), [], 328⟩)
theorem jo2_6o21 : mok [] (lenL 1 6 8 ++ []) joN2 36 jo2_6m21 = true := by kernel_rfl
def jo2_6m22 : Memo := (⟨[(.c (.ei .i64 jom8_7)), (.c (.ef (.tf jom8_14 jom8_0 (.tf jom8_19 jom8_1 (.tf jom8_80 jom8_2 jom8_3))))), (.c (.ef (.tf jom8_16 jom8_0 (.tf jom8_21 jom8_1 (.tf jom8_81 jom8_2 jom8_3))))), (.c (.ef jom8_13)), (.c (.ef (.tf jom8_14 (.lf 0) (.tf jom8_19 (.lf 0) (.tf jom8_80 (.lf 4607182418800017408) (.lf 0)))))), (.c (.ef (.tf jom8_16 (.lf 0) (.tf jom8_21 (.lf 0) (.tf jom8_81 (.lf 4607182418800017408) (.lf 0))))))], [], 328, (.c (.ef jom8_24)), [], 328⟩)
theorem jo2_6o22 : mok [] (lenL 1 6 8 ++ []) joN2 36 jo2_6m22 = true := by kernel_rfl
def jo2_6m23 : Memo := (⟨[(.c (.ei .i64 jom8_28)), (.c (.ef (.vf 121))), (.c (.ef (.vf 122))), (.c (.ef jom8_32)), (.c (.ef (.vf 123))), (.c (.ef (.vf 124)))], [], 330, (.c (.ef jom8_33)), [], 330⟩)
theorem jo2_6o23 : mok [] (lenL 1 6 8 ++ []) joN2 36 jo2_6m23 = true := by kernel_rfl
def jo2_6m24 : Memo := (⟨[(.c (.ei .i64 jom8_28)), (.c (.ef (.vf 121))), (.c (.ef (.vf 122))), (.c (.ef jom8_32)), (.c (.ef (.vf 125))), (.c (.ef (.vf 126)))], [], 330, (.c (.ef jom8_34)), [], 330⟩)
theorem jo2_6o24 : mok [] (lenL 1 6 8 ++ []) joN2 36 jo2_6m24 = true := by kernel_rfl
def jo2_6m25 : Memo := (⟨[(.c (.ei .i64 jom8_28)), (.c (.ef (.vf 121))), (.c (.ef (.vf 122))), (.c (.ef jom8_32)), (.c (.ef (.vf 127))), (.c (.ef (.vf 128)))], [], 330, (.c (.ef jom8_35)), [], 330⟩)
theorem jo2_6o25 : mok [] (lenL 1 6 8 ++ []) joN2 36 jo2_6m25 = true := by kernel_rfl
def jo2_6m26 : Memo := (⟨[(.c (.ei .i64 jom8_39)), (.c (.ef (.vf 144))), (.c (.ef (.vf 145))), (.c (.ef jom8_43)), (.c (.ef (.vf 146))), (.c (.ef (.vf 147)))], [], 332, (.c (.ef jom8_44)), [], 332⟩)
theorem jo2_6o26 : mok [] (lenL 1 6 8 ++ []) joN2 36 jo2_6m26 = true := by kernel_rfl
def jo2_6m27 : Memo := (⟨[(.c (.ei .i64 jom8_39)), (.c (.ef (.vf 144))), (.c (.ef (.vf 145))), (.c (.ef jom8_43)), (.c (.ef (.vf 148))), (.c (.ef (.vf 149)))], [], 332, (.c (.ef jom8_45)), [], 332⟩)
theorem jo2_6o27 : mok [] (lenL 1 6 8 ++ []) joN2 36 jo2_6m27 = true := by kernel_rfl
def jo2_6m28 : Memo := (⟨[(.c (.ei .i64 jom8_39)), (.c (.ef (.vf 144))), (.c (.ef (.vf 145))), (.c (.ef jom8_43)), (.c (.ef (.vf 150))), (.c (.ef (.vf 151)))], [], 332, (.c (.ef jom8_46)), [], 332⟩)
theorem jo2_6o28 : mok [] (lenL 1 6 8 ++ []) joN2 36 jo2_6m28 = true := by kernel_rfl
def jo2_6m29 : Memo := (⟨[(.c (.ei .i64 jom8_50)), (.c (.ef (.vf 167))), (.c (.ef (.vf 168))), (.c (.ef jom8_54)), (.c (.ef (.vf 169))), (.c (.ef (.vf 170)))], [], 334, (.c (.ef jom8_55)), [], 334⟩)
theorem jo2_6o29 : mok [] (lenL 1 6 8 ++ []) joN2 36 jo2_6m29 = true := by kernel_rfl
def jo2_6m30 : Memo := (⟨[(.c (.ei .i64 jom8_50)), (.c (.ef (.vf 167))), (.c (.ef (.vf 168))), (.c (.ef jom8_54)), (.c (.ef (.vf 171))), (.c (.ef (.vf 172)))], [], 334, (.c (.ef jom8_56)), [], 334⟩)
theorem jo2_6o30 : mok [] (lenL 1 6 8 ++ []) joN2 36 jo2_6m30 = true := by kernel_rfl
def jo2_6m31 : Memo := (⟨[(.c (.ei .i64 jom8_50)), (.c (.ef (.vf 167))), (.c (.ef (.vf 168))), (.c (.ef jom8_54)), (.c (.ef (.vf 173))), (.c (.ef (.vf 174)))], [], 334, (.c (.ef jom8_57)), [], 334⟩)
theorem jo2_6o31 : mok [] (lenL 1 6 8 ++ []) joN2 36 jo2_6m31 = true := by kernel_rfl
def jo2_6m32 : Memo := (⟨[(.c (.ei .i64 jom8_61)), (.c (.ef (.vf 190))), (.c (.ef (.vf 191))), (.c (.ef jom8_65)), (.c (.ef (.vf 192))), (.c (.ef (.vf 193)))], [], 336, (.c (.ef jom8_66)), [], 336⟩)
theorem jo2_6o32 : mok [] (lenL 1 6 8 ++ []) joN2 36 jo2_6m32 = true := by kernel_rfl
def jo2_6m33 : Memo := (⟨[(.c (.ei .i64 jom8_61)), (.c (.ef (.vf 190))), (.c (.ef (.vf 191))), (.c (.ef jom8_65)), (.c (.ef (.vf 194))), (.c (.ef (.vf 195)))], [], 336, (.c (.ef jom8_67)), [], 336⟩)
theorem jo2_6o33 : mok [] (lenL 1 6 8 ++ []) joN2 36 jo2_6m33 = true := by kernel_rfl
def jo2_6m34 : Memo := (⟨[(.c (.ei .i64 jom8_61)), (.c (.ef (.vf 190))), (.c (.ef (.vf 191))), (.c (.ef jom8_65)), (.c (.ef (.vf 196))), (.c (.ef (.vf 197)))], [], 336, (.c (.ef jom8_68)), [], 336⟩)
theorem jo2_6o34 : mok [] (lenL 1 6 8 ++ []) joN2 36 jo2_6m34 = true := by kernel_rfl
def jo2_6m35 : Memo := (⟨[(.c (.ei .i64 jom8_72)), (.c (.ef (.vf 213))), (.c (.ef (.vf 214))), (.c (.ef jom8_76)), (.c (.ef (.vf 215))), (.c (.ef (.vf 216)))], [], 338, (.c (.ef jom8_77)), [], 338⟩)
theorem jo2_6o35 : mok [] (lenL 1 6 8 ++ []) joN2 36 jo2_6m35 = true := by kernel_rfl
def jo2_6m36 : Memo := (⟨[(.c (.ei .i64 jom8_72)), (.c (.ef (.vf 213))), (.c (.ef (.vf 214))), (.c (.ef jom8_76)), (.c (.ef (.vf 217))), (.c (.ef (.vf 218)))], [], 338, (.c (.ef jom8_78)), [], 338⟩)
theorem jo2_6o36 : mok [] (lenL 1 6 8 ++ []) joN2 36 jo2_6m36 = true := by kernel_rfl
def jo2_6m37 : Memo := (⟨[(.c (.ei .i64 jom8_72)), (.c (.ef (.vf 213))), (.c (.ef (.vf 214))), (.c (.ef jom8_76)), (.c (.ef (.vf 219))), (.c (.ef (.vf 220)))], [], 338, (.c (.ef jom8_79)), [], 338⟩)
theorem jo2_6o37 : mok [] (lenL 1 6 8 ++ []) joN2 36 jo2_6m37 = true := by kernel_rfl
def jo2_6ms : List (Nat × List Memo) := [(77, [jo2_6m0, jo2_6m1, jo2_6m2, jo2_6m3, jo2_6m4, jo2_6m5, jo2_6m6, jo2_6m7, jo2_6m8, jo2_6m9, jo2_6m10, jo2_6m11, jo2_6m12, jo2_6m13, jo2_6m14, jo2_6m15, jo2_6m16, jo2_6m17, jo2_6m18, jo2_6m19]), (36, [jo2_6m20, jo2_6m21, jo2_6m22, jo2_6m23, jo2_6m24, jo2_6m25, jo2_6m26, jo2_6m27, jo2_6m28, jo2_6m29, jo2_6m30, jo2_6m31, jo2_6m32, jo2_6m33, jo2_6m34, jo2_6m35, jo2_6m36, jo2_6m37])]
theorem jo2_6mo : AllMem (memRun [] (lenL 1 6 8 ++ []) joN2) jo2_6ms := ⟨⟨jo2_6o0, jo2_6o1, jo2_6o2, jo2_6o3, jo2_6o4, jo2_6o5, jo2_6o6, jo2_6o7, jo2_6o8, jo2_6o9, jo2_6o10, jo2_6o11, jo2_6o12, jo2_6o13, jo2_6o14, jo2_6o15, jo2_6o16, jo2_6o17, jo2_6o18, jo2_6o19, trivial⟩, ⟨jo2_6o20, jo2_6o21, jo2_6o22, jo2_6o23, jo2_6o24, jo2_6o25, jo2_6o26, jo2_6o27, jo2_6o28, jo2_6o29, jo2_6o30, jo2_6o31, jo2_6o32, jo2_6o33, jo2_6o34, jo2_6o35, jo2_6o36, jo2_6o37, trivial⟩, trivial⟩
theorem jo2_6 : lawRunM 8 10 200 [.i, .q, .q, .i] [(0, 3, 2)] (lenL 1 6 8 ++ []) joN2 jo2_6ms = true := by kernel_rfl
end Go.Proofs.Ytlgifofnejncpaa
