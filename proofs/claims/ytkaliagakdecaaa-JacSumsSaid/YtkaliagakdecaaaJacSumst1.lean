/-
  'JacSums': what names stand for, where the first rest is 1.
-/
import Derived.Test.YtkaliagakdecaaaM4n
namespace Go.Proofs.Ytkaliagakdecaaa
open Go.RowKit Ex
def jse1_0 : E := (.ib .quo .i64 (.vi 0) (.li 3))
def jse1_1 : E := (.ai 9 0 (.ci (.ib .add .i64 jse1_0 (.li 0)) (.ci (.li 3) .n0)))
def jse1_2 : E := (.ib .sub .i64 (.li 2) jse1_1)
def jse1_3 : E := (.ic .eql jse1_2 (.li 0))
def jse1_4 : E := (.i2f (.f2i (.fb .quo (.i2f (.ib .sub .i64 (.ai 9 0 (.ci (.ti (.ic .lss (.li 0) (.vl 2)) (.at 2 0) (.li 0)) (.ci (.li 65) .n0))) (.li 32))) (.lf 4620693217682128896))))
def jse1_5 : E := (.ic .eql jse1_2 (.li 1))
def jse1_6 : E := (.i2f (.f2i (.fb .quo (.i2f (.ib .sub .i64 (.ai 9 0 (.ci (.ti (.ic .lss (.li 1) (.vl 2)) (.at 2 1) (.li 1)) (.ci (.li 65) .n0))) (.li 32))) (.lf 4620693217682128896))))
def jse1_7 : E := (.i2f (.f2i (.fb .quo (.i2f (.ib .sub .i64 (.ai 9 0 (.ci (.vi 0) (.ci (.li 17) .n0))) (.li 8))) (.lf 4616189618054758400))))
def jse1_8 : E := (.tf jse1_3 jse1_4 (.tf jse1_5 jse1_6 jse1_7))
def jse1_9 : E := (.ai 9 0 (.ci (.ib .add .i64 jse1_0 (.li 1)) (.ci (.li 3) .n0)))
def jse1_10 : E := (.ib .sub .i64 (.li 2) jse1_9)
def jse1_11 : E := (.ic .eql jse1_10 (.li 0))
def jse1_12 : E := (.ic .eql jse1_10 (.li 1))
def jse1_13 : E := (.tf jse1_11 jse1_4 (.tf jse1_12 jse1_6 jse1_7))
def jse1_14 : E := (.tf jse1_3 (.lf 0) (.tf jse1_5 (.lf 4607182418800017408) (.lf 0)))
def jse1_15 : E := (.tf jse1_11 (.lf 0) (.tf jse1_12 (.lf 4607182418800017408) (.lf 0)))
def jse1_16 : E := (.ai 9 0 (.ci (.ib .quo .i64 (.at 1 0) (.li 4)) (.ci (.li 3) .n0)))
def jse1_17 : E := (.ic .eql jse1_16 (.li 0))
def jse1_18 : E := (.ic .eql jse1_16 (.li 1))
def jse1_19 : E := (.tf jse1_17 jse1_4 (.tf jse1_18 jse1_6 jse1_7))
def jse1_20 : E := (.ai 9 0 (.ci (.ib .quo .i64 (.at 1 0) (.li 40)) (.ci (.li 3) .n0)))
def jse1_21 : E := (.ic .eql jse1_20 (.li 0))
def jse1_22 : E := (.ic .eql jse1_20 (.li 1))
def jse1_23 : E := (.tf jse1_21 jse1_4 (.tf jse1_22 jse1_6 jse1_7))
def jse1_24 : E := (.tf jse1_17 (.lf 4607182418800017408) (.lf 0))
def jse1_25 : E := (.tf jse1_21 (.lf 4607182418800017408) (.lf 0))
def jse1_26 : E := (.tf jse1_17 (.lf 0) (.tf jse1_18 (.lf 4607182418800017408) (.lf 0)))
def jse1_27 : E := (.tf jse1_21 (.lf 0) (.tf jse1_22 (.lf 4607182418800017408) (.lf 0)))
def jse1_28 : E := (.ib .sub .i64 (.ib .sub .i64 (.li 3) jse1_1) (.li 1))
def jse1_29 : E := (.ic .eql jse1_28 (.li 0))
def jse1_30 : E := (.ic .eql jse1_28 (.li 1))
def jse1_31 : E := (.ic .eql (.ai 9 0 (.ci (.at 1 0) (.ci (.li 11) .n0))) (.li 0))
def jse1_32 : E := (.ib .add .i64 (.li 2) (.ai 9 0 (.ci (.at 1 0) (.ci (.li 3) .n0))))
def jse1_33 : E := (.ic .eql jse1_32 (.li 2))
def jse1_34 : E := (.ic .eql jse1_32 (.li 3))
def jse1_35 : E := (.tf jse1_31 (.i2f (.f2i (.fb .quo (.i2f (.ib .sub .i64 (.ai 9 0 (.ci (.ib .quo .i64 (.at 1 0) (.li 11)) (.ci (.li 33) .n0))) (.li 16))) (.lf 4620693217682128896)))) (.tf jse1_33 (.vf 104) (.tf jse1_34 (.vf 105) (.vf 106))))
def jse1_36 : E := (.tf jse1_29 jse1_6 (.tf jse1_30 jse1_7 jse1_35))
def jse1_37 : E := (.ib .sub .i64 (.ib .sub .i64 (.li 3) jse1_9) (.li 1))
def jse1_38 : E := (.ic .eql jse1_37 (.li 0))
def jse1_39 : E := (.ic .eql jse1_37 (.li 1))
def jse1_40 : E := (.tf jse1_38 jse1_6 (.tf jse1_39 jse1_7 jse1_35))
def jse1_41 : E := (.tf jse1_31 (.lf 0) (.tf jse1_33 (.fb .add jse1_24 jse1_25) (.tf jse1_34 (.fb .sub jse1_24 jse1_25) (.fb .add (.vf 107) (.vf 108)))))
def jse1_42 : E := (.tf jse1_29 (.lf 0) (.tf jse1_30 (.lf 0) jse1_41))
def jse1_43 : E := (.tf jse1_38 (.lf 0) (.tf jse1_39 (.lf 0) jse1_41))
def jse1_44 : E := (.tf jse1_31 (.lf 0) (.tf jse1_33 (.fb .add jse1_26 jse1_27) (.tf jse1_34 (.fb .sub jse1_26 jse1_27) (.fb .add (.vf 109) (.vf 110)))))
def jse1_45 : E := (.tf jse1_29 (.lf 4607182418800017408) (.tf jse1_30 (.lf 0) jse1_44))
def jse1_46 : E := (.tf jse1_38 (.lf 4607182418800017408) (.tf jse1_39 (.lf 0) jse1_44))
def jse1_47 : E := (.ai 9 0 (.ci (.ib .quo .i64 (.at 1 1) (.li 4)) (.ci (.li 4) .n0)))
def jse1_48 : E := (.ic .eql jse1_47 (.li 0))
def jse1_49 : E := (.ic .eql jse1_47 (.li 1))
def jse1_50 : E := (.ic .eql jse1_47 (.li 2))
def jse1_51 : E := (.tf jse1_48 jse1_4 (.tf jse1_49 jse1_6 (.tf jse1_50 jse1_7 jse1_35)))
def jse1_52 : E := (.ai 9 0 (.ci (.ib .quo .i64 (.at 1 1) (.li 40)) (.ci (.li 4) .n0)))
def jse1_53 : E := (.ic .eql jse1_52 (.li 0))
def jse1_54 : E := (.ic .eql jse1_52 (.li 1))
def jse1_55 : E := (.ic .eql jse1_52 (.li 2))
def jse1_56 : E := (.tf jse1_53 jse1_4 (.tf jse1_54 jse1_6 (.tf jse1_55 jse1_7 jse1_35)))
def jse1_57 : E := (.tf jse1_48 (.lf 4607182418800017408) (.tf jse1_49 (.lf 0) (.tf jse1_50 (.lf 0) jse1_41)))
def jse1_58 : E := (.tf jse1_53 (.lf 4607182418800017408) (.tf jse1_54 (.lf 0) (.tf jse1_55 (.lf 0) jse1_41)))
def jse1_59 : E := (.tf jse1_48 (.lf 0) (.tf jse1_49 (.lf 4607182418800017408) (.tf jse1_50 (.lf 0) jse1_44)))
def jse1_60 : E := (.tf jse1_53 (.lf 0) (.tf jse1_54 (.lf 4607182418800017408) (.tf jse1_55 (.lf 0) jse1_44)))
def jse1_61 : E := (.ib .sub .i64 (.ib .sub .i64 (.li 4) jse1_1) (.li 2))
def jse1_62 : E := (.ic .eql jse1_61 (.li 0))
def jse1_63 : E := (.ic .eql jse1_61 (.li 1))
def jse1_64 : E := (.ic .eql (.ai 9 0 (.ci (.at 1 1) (.ci (.li 11) .n0))) (.li 0))
def jse1_65 : E := (.ib .add .i64 (.li 2) (.ai 9 0 (.ci (.at 1 1) (.ci (.li 3) .n0))))
def jse1_66 : E := (.ic .eql jse1_65 (.li 2))
def jse1_67 : E := (.ic .eql jse1_65 (.li 3))
def jse1_68 : E := (.tf jse1_64 (.i2f (.f2i (.fb .quo (.i2f (.ib .sub .i64 (.ai 9 0 (.ci (.ib .quo .i64 (.at 1 1) (.li 11)) (.ci (.li 33) .n0))) (.li 16))) (.lf 4620693217682128896)))) (.tf jse1_66 (.vf 117) (.tf jse1_67 (.vf 120) (.vf 123))))
def jse1_69 : E := (.ib .sub .i64 (.ib .sub .i64 (.li 4) jse1_9) (.li 2))
def jse1_70 : E := (.ic .eql jse1_69 (.li 0))
def jse1_71 : E := (.ic .eql jse1_69 (.li 1))
def jse1_72 : E := (.tf jse1_64 (.lf 0) (.tf jse1_66 (.vf 118) (.tf jse1_67 (.vf 121) (.fb .add (.vf 124) (.vf 125)))))
def jse1_73 : E := (.tf jse1_64 (.lf 0) (.tf jse1_66 (.vf 119) (.tf jse1_67 (.vf 122) (.fb .add (.vf 126) (.vf 127)))))
def jse1_74 : E := (.ai 9 0 (.ci (.ib .quo .i64 (.at 1 2) (.li 4)) (.ci (.li 5) .n0)))
def jse1_75 : E := (.ic .eql jse1_74 (.li 0))
def jse1_76 : E := (.ic .eql jse1_74 (.li 1))
def jse1_77 : E := (.ic .eql jse1_74 (.li 2))
def jse1_78 : E := (.ic .eql jse1_74 (.li 3))
def jse1_79 : E := (.ai 9 0 (.ci (.ib .quo .i64 (.at 1 2) (.li 40)) (.ci (.li 5) .n0)))
def jse1_80 : E := (.ic .eql jse1_79 (.li 0))
def jse1_81 : E := (.ic .eql jse1_79 (.li 1))
def jse1_82 : E := (.ic .eql jse1_79 (.li 2))
def jse1_83 : E := (.ic .eql jse1_79 (.li 3))
def jse1_84 : E := (.ib .sub .i64 (.ib .sub .i64 (.li 5) jse1_1) (.li 3))
def jse1_85 : E := (.ic .eql jse1_84 (.li 0))
def jse1_86 : E := (.ic .eql jse1_84 (.li 1))
def jse1_87 : E := (.ic .eql (.ai 9 0 (.ci (.at 1 2) (.ci (.li 11) .n0))) (.li 0))
def jse1_88 : E := (.ib .add .i64 (.li 2) (.ai 9 0 (.ci (.at 1 2) (.ci (.li 3) .n0))))
def jse1_89 : E := (.ic .eql jse1_88 (.li 2))
def jse1_90 : E := (.ic .eql jse1_88 (.li 3))
def jse1_91 : E := (.tf jse1_87 (.i2f (.f2i (.fb .quo (.i2f (.ib .sub .i64 (.ai 9 0 (.ci (.ib .quo .i64 (.at 1 2) (.li 11)) (.ci (.li 33) .n0))) (.li 16))) (.lf 4620693217682128896)))) (.tf jse1_89 (.fb .add (.vf 134) (.vf 135)) (.tf jse1_90 (.fb .sub (.vf 134) (.vf 135)) (.fb .mul (.vf 134) (.vf 135)))))
def jse1_92 : E := (.ib .sub .i64 (.ib .sub .i64 (.li 5) jse1_9) (.li 3))
def jse1_93 : E := (.ic .eql jse1_92 (.li 0))
def jse1_94 : E := (.ic .eql jse1_92 (.li 1))
def jse1_95 : E := (.tf jse1_87 (.lf 0) (.tf jse1_89 (.fb .add (.vf 136) (.vf 137)) (.tf jse1_90 (.fb .sub (.vf 136) (.vf 137)) (.fb .add (.fb .mul (.vf 136) (.vf 135)) (.fb .mul (.vf 134) (.vf 137))))))
def jse1_96 : E := (.tf jse1_87 (.lf 0) (.tf jse1_89 (.fb .add (.vf 138) (.vf 139)) (.tf jse1_90 (.fb .sub (.vf 138) (.vf 139)) (.fb .add (.fb .mul (.vf 138) (.vf 135)) (.fb .mul (.vf 134) (.vf 139))))))
def jse1_97 : E := (.ai 9 0 (.ci (.ib .quo .i64 (.at 1 3) (.li 4)) (.ci (.li 6) .n0)))
def jse1_98 : E := (.ic .eql jse1_97 (.li 0))
def jse1_99 : E := (.ic .eql jse1_97 (.li 1))
def jse1_100 : E := (.ic .eql jse1_97 (.li 2))
def jse1_101 : E := (.ic .eql jse1_97 (.li 3))
def jse1_102 : E := (.ic .eql jse1_97 (.li 4))
def jse1_103 : E := (.ai 9 0 (.ci (.ib .quo .i64 (.at 1 3) (.li 40)) (.ci (.li 6) .n0)))
def jse1_104 : E := (.ic .eql jse1_103 (.li 0))
def jse1_105 : E := (.ic .eql jse1_103 (.li 1))
def jse1_106 : E := (.ic .eql jse1_103 (.li 2))
def jse1_107 : E := (.ic .eql jse1_103 (.li 3))
def jse1_108 : E := (.ic .eql jse1_103 (.li 4))
def jse1_109 : E := (.ib .sub .i64 (.ib .sub .i64 (.li 6) jse1_1) (.li 4))
def jse1_110 : E := (.ic .eql jse1_109 (.li 0))
def jse1_111 : E := (.ic .eql jse1_109 (.li 1))
def jse1_112 : E := (.ic .eql (.ai 9 0 (.ci (.at 1 3) (.ci (.li 11) .n0))) (.li 0))
def jse1_113 : E := (.ib .add .i64 (.li 2) (.ai 9 0 (.ci (.at 1 3) (.ci (.li 3) .n0))))
def jse1_114 : E := (.ic .eql jse1_113 (.li 2))
def jse1_115 : E := (.ic .eql jse1_113 (.li 3))
def jse1_116 : E := (.tf jse1_112 (.i2f (.f2i (.fb .quo (.i2f (.ib .sub .i64 (.ai 9 0 (.ci (.ib .quo .i64 (.at 1 3) (.li 11)) (.ci (.li 33) .n0))) (.li 16))) (.lf 4620693217682128896)))) (.tf jse1_114 (.fb .add (.vf 146) (.vf 147)) (.tf jse1_115 (.fb .sub (.vf 146) (.vf 147)) (.fb .mul (.vf 146) (.vf 147)))))
def jse1_117 : E := (.ib .sub .i64 (.ib .sub .i64 (.li 6) jse1_9) (.li 4))
def jse1_118 : E := (.ic .eql jse1_117 (.li 0))
def jse1_119 : E := (.ic .eql jse1_117 (.li 1))
def jse1_120 : E := (.tf jse1_112 (.lf 0) (.tf jse1_114 (.fb .add (.vf 148) (.vf 149)) (.tf jse1_115 (.fb .sub (.vf 148) (.vf 149)) (.fb .add (.fb .mul (.vf 148) (.vf 147)) (.fb .mul (.vf 146) (.vf 149))))))
def jse1_121 : E := (.tf jse1_112 (.lf 0) (.tf jse1_114 (.fb .add (.vf 150) (.vf 151)) (.tf jse1_115 (.fb .sub (.vf 150) (.vf 151)) (.fb .add (.fb .mul (.vf 150) (.vf 147)) (.fb .mul (.vf 146) (.vf 151))))))
def jse1_122 : E := (.ai 9 0 (.ci (.ib .quo .i64 (.at 1 4) (.li 4)) (.ci (.li 7) .n0)))
def jse1_123 : E := (.ic .eql jse1_122 (.li 0))
def jse1_124 : E := (.ic .eql jse1_122 (.li 1))
def jse1_125 : E := (.ic .eql jse1_122 (.li 2))
def jse1_126 : E := (.ic .eql jse1_122 (.li 3))
def jse1_127 : E := (.ic .eql jse1_122 (.li 4))
def jse1_128 : E := (.ic .eql jse1_122 (.li 5))
def jse1_129 : E := (.ai 9 0 (.ci (.ib .quo .i64 (.at 1 4) (.li 40)) (.ci (.li 7) .n0)))
def jse1_130 : E := (.ic .eql jse1_129 (.li 0))
def jse1_131 : E := (.ic .eql jse1_129 (.li 1))
def jse1_132 : E := (.ic .eql jse1_129 (.li 2))
def jse1_133 : E := (.ic .eql jse1_129 (.li 3))
def jse1_134 : E := (.ic .eql jse1_129 (.li 4))
def jse1_135 : E := (.ic .eql jse1_129 (.li 5))
def jse1_136 : E := (.ib .sub .i64 (.ib .sub .i64 (.li 7) jse1_1) (.li 5))
def jse1_137 : E := (.ic .eql jse1_136 (.li 0))
def jse1_138 : E := (.ic .eql jse1_136 (.li 1))
def jse1_139 : E := (.ic .eql (.ai 9 0 (.ci (.at 1 4) (.ci (.li 11) .n0))) (.li 0))
def jse1_140 : E := (.ib .add .i64 (.li 2) (.ai 9 0 (.ci (.at 1 4) (.ci (.li 3) .n0))))
def jse1_141 : E := (.ic .eql jse1_140 (.li 2))
def jse1_142 : E := (.ic .eql jse1_140 (.li 3))
def jse1_143 : E := (.tf jse1_139 (.i2f (.f2i (.fb .quo (.i2f (.ib .sub .i64 (.ai 9 0 (.ci (.ib .quo .i64 (.at 1 4) (.li 11)) (.ci (.li 33) .n0))) (.li 16))) (.lf 4620693217682128896)))) (.tf jse1_141 (.fb .add (.vf 158) (.vf 159)) (.tf jse1_142 (.fb .sub (.vf 158) (.vf 159)) (.fb .mul (.vf 158) (.vf 159)))))
def jse1_144 : E := (.ib .sub .i64 (.ib .sub .i64 (.li 7) jse1_9) (.li 5))
def jse1_145 : E := (.ic .eql jse1_144 (.li 0))
def jse1_146 : E := (.ic .eql jse1_144 (.li 1))
def jse1_147 : E := (.tf jse1_139 (.lf 0) (.tf jse1_141 (.fb .add (.vf 160) (.vf 161)) (.tf jse1_142 (.fb .sub (.vf 160) (.vf 161)) (.fb .add (.fb .mul (.vf 160) (.vf 159)) (.fb .mul (.vf 158) (.vf 161))))))
def jse1_148 : E := (.tf jse1_139 (.lf 0) (.tf jse1_141 (.fb .add (.vf 162) (.vf 163)) (.tf jse1_142 (.fb .sub (.vf 162) (.vf 163)) (.fb .add (.fb .mul (.vf 162) (.vf 159)) (.fb .mul (.vf 158) (.vf 163))))))
def jse1_149 : E := (.ai 9 0 (.ci (.ib .quo .i64 (.at 1 5) (.li 4)) (.ci (.li 8) .n0)))
def jse1_150 : E := (.ic .eql jse1_149 (.li 0))
def jse1_151 : E := (.ic .eql jse1_149 (.li 1))
def jse1_152 : E := (.ic .eql jse1_149 (.li 2))
def jse1_153 : E := (.ic .eql jse1_149 (.li 3))
def jse1_154 : E := (.ic .eql jse1_149 (.li 4))
def jse1_155 : E := (.ic .eql jse1_149 (.li 5))
def jse1_156 : E := (.ic .eql jse1_149 (.li 6))
def jse1_157 : E := (.ai 9 0 (.ci (.ib .quo .i64 (.at 1 5) (.li 40)) (.ci (.li 8) .n0)))
def jse1_158 : E := (.ic .eql jse1_157 (.li 0))
def jse1_159 : E := (.ic .eql jse1_157 (.li 1))
def jse1_160 : E := (.ic .eql jse1_157 (.li 2))
def jse1_161 : E := (.ic .eql jse1_157 (.li 3))
def jse1_162 : E := (.ic .eql jse1_157 (.li 4))
def jse1_163 : E := (.ic .eql jse1_157 (.li 5))
def jse1_164 : E := (.ic .eql jse1_157 (.li 6))
def jse1_165 : E := (.ib .sub .i64 (.ib .sub .i64 (.li 8) jse1_1) (.li 6))
def jse1_166 : E := (.ic .eql jse1_165 (.li 0))
def jse1_167 : E := (.ic .eql jse1_165 (.li 1))
def jse1_168 : E := (.ic .eql (.ai 9 0 (.ci (.at 1 5) (.ci (.li 11) .n0))) (.li 0))
def jse1_169 : E := (.ib .add .i64 (.li 2) (.ai 9 0 (.ci (.at 1 5) (.ci (.li 3) .n0))))
def jse1_170 : E := (.ic .eql jse1_169 (.li 2))
def jse1_171 : E := (.ic .eql jse1_169 (.li 3))
def jse1_172 : E := (.tf jse1_168 (.i2f (.f2i (.fb .quo (.i2f (.ib .sub .i64 (.ai 9 0 (.ci (.ib .quo .i64 (.at 1 5) (.li 11)) (.ci (.li 33) .n0))) (.li 16))) (.lf 4620693217682128896)))) (.tf jse1_170 (.fb .add (.vf 170) (.vf 171)) (.tf jse1_171 (.fb .sub (.vf 170) (.vf 171)) (.fb .mul (.vf 170) (.vf 171)))))
def jse1_173 : E := (.ib .sub .i64 (.ib .sub .i64 (.li 8) jse1_9) (.li 6))
def jse1_174 : E := (.ic .eql jse1_173 (.li 0))
def jse1_175 : E := (.ic .eql jse1_173 (.li 1))
def jse1_176 : E := (.tf jse1_168 (.lf 0) (.tf jse1_170 (.fb .add (.vf 172) (.vf 173)) (.tf jse1_171 (.fb .sub (.vf 172) (.vf 173)) (.fb .add (.fb .mul (.vf 172) (.vf 171)) (.fb .mul (.vf 170) (.vf 173))))))
def jse1_177 : E := (.tf jse1_168 (.lf 0) (.tf jse1_170 (.fb .add (.vf 174) (.vf 175)) (.tf jse1_171 (.fb .sub (.vf 174) (.vf 175)) (.fb .add (.fb .mul (.vf 174) (.vf 171)) (.fb .mul (.vf 170) (.vf 175))))))
def jse1_178 : E := (.ai 9 0 (.ci (.ib .quo .i64 (.at 1 6) (.li 4)) (.ci (.li 9) .n0)))
def jse1_179 : E := (.ic .eql jse1_178 (.li 0))
def jse1_180 : E := (.ic .eql jse1_178 (.li 1))
def jse1_181 : E := (.ic .eql jse1_178 (.li 2))
def jse1_182 : E := (.ic .eql jse1_178 (.li 3))
def jse1_183 : E := (.ic .eql jse1_178 (.li 4))
def jse1_184 : E := (.ic .eql jse1_178 (.li 5))
def jse1_185 : E := (.ic .eql jse1_178 (.li 6))
def jse1_186 : E := (.ic .eql jse1_178 (.li 7))
def jse1_187 : E := (.ai 9 0 (.ci (.ib .quo .i64 (.at 1 6) (.li 40)) (.ci (.li 9) .n0)))
def jse1_188 : E := (.ic .eql jse1_187 (.li 0))
def jse1_189 : E := (.ic .eql jse1_187 (.li 1))
def jse1_190 : E := (.ic .eql jse1_187 (.li 2))
def jse1_191 : E := (.ic .eql jse1_187 (.li 3))
def jse1_192 : E := (.ic .eql jse1_187 (.li 4))
def jse1_193 : E := (.ic .eql jse1_187 (.li 5))
def jse1_194 : E := (.ic .eql jse1_187 (.li 6))
def jse1_195 : E := (.ic .eql jse1_187 (.li 7))
def jse1_196 : E := (.ib .sub .i64 (.ib .sub .i64 (.li 9) jse1_1) (.li 7))
def jse1_197 : E := (.ic .eql jse1_196 (.li 0))
def jse1_198 : E := (.ic .eql jse1_196 (.li 1))
def jse1_199 : E := (.ic .eql (.ai 9 0 (.ci (.at 1 6) (.ci (.li 11) .n0))) (.li 0))
def jse1_200 : E := (.ib .add .i64 (.li 2) (.ai 9 0 (.ci (.at 1 6) (.ci (.li 3) .n0))))
def jse1_201 : E := (.ic .eql jse1_200 (.li 2))
def jse1_202 : E := (.ic .eql jse1_200 (.li 3))
def jse1_203 : E := (.tf jse1_199 (.i2f (.f2i (.fb .quo (.i2f (.ib .sub .i64 (.ai 9 0 (.ci (.ib .quo .i64 (.at 1 6) (.li 11)) (.ci (.li 33) .n0))) (.li 16))) (.lf 4620693217682128896)))) (.tf jse1_201 (.fb .add (.vf 182) (.vf 183)) (.tf jse1_202 (.fb .sub (.vf 182) (.vf 183)) (.fb .mul (.vf 182) (.vf 183)))))
def jse1_204 : E := (.ib .sub .i64 (.ib .sub .i64 (.li 9) jse1_9) (.li 7))
def jse1_205 : E := (.ic .eql jse1_204 (.li 0))
def jse1_206 : E := (.ic .eql jse1_204 (.li 1))
def jse1_207 : E := (.tf jse1_199 (.lf 0) (.tf jse1_201 (.fb .add (.vf 184) (.vf 185)) (.tf jse1_202 (.fb .sub (.vf 184) (.vf 185)) (.fb .add (.fb .mul (.vf 184) (.vf 183)) (.fb .mul (.vf 182) (.vf 185))))))
def jse1_208 : E := (.tf jse1_199 (.lf 0) (.tf jse1_201 (.fb .add (.vf 186) (.vf 187)) (.tf jse1_202 (.fb .sub (.vf 186) (.vf 187)) (.fb .add (.fb .mul (.vf 186) (.vf 183)) (.fb .mul (.vf 182) (.vf 187))))))
def jse1_209 : E := (.ai 9 0 (.ci (.ib .quo .i64 (.at 1 7) (.li 4)) (.ci (.li 10) .n0)))
def jse1_210 : E := (.ic .eql jse1_209 (.li 0))
def jse1_211 : E := (.ic .eql jse1_209 (.li 1))
def jse1_212 : E := (.ic .eql jse1_209 (.li 2))
def jse1_213 : E := (.ic .eql jse1_209 (.li 3))
def jse1_214 : E := (.ic .eql jse1_209 (.li 4))
def jse1_215 : E := (.ic .eql jse1_209 (.li 5))
def jse1_216 : E := (.ic .eql jse1_209 (.li 6))
def jse1_217 : E := (.ic .eql jse1_209 (.li 7))
def jse1_218 : E := (.ic .eql jse1_209 (.li 8))
def jse1_219 : E := (.ai 9 0 (.ci (.ib .quo .i64 (.at 1 7) (.li 40)) (.ci (.li 10) .n0)))
def jse1_220 : E := (.ic .eql jse1_219 (.li 0))
def jse1_221 : E := (.ic .eql jse1_219 (.li 1))
def jse1_222 : E := (.ic .eql jse1_219 (.li 2))
def jse1_223 : E := (.ic .eql jse1_219 (.li 3))
def jse1_224 : E := (.ic .eql jse1_219 (.li 4))
def jse1_225 : E := (.ic .eql jse1_219 (.li 5))
def jse1_226 : E := (.ic .eql jse1_219 (.li 6))
def jse1_227 : E := (.ic .eql jse1_219 (.li 7))
def jse1_228 : E := (.ic .eql jse1_219 (.li 8))
def jse1_229 : E := (.ib .sub .i64 (.ib .sub .i64 (.li 10) jse1_1) (.li 8))
def jse1_230 : E := (.ic .eql jse1_229 (.li 0))
def jse1_231 : E := (.ic .eql jse1_229 (.li 1))
def jse1_232 : E := (.ic .eql (.ai 9 0 (.ci (.at 1 7) (.ci (.li 11) .n0))) (.li 0))
def jse1_233 : E := (.ib .add .i64 (.li 2) (.ai 9 0 (.ci (.at 1 7) (.ci (.li 3) .n0))))
def jse1_234 : E := (.ic .eql jse1_233 (.li 2))
def jse1_235 : E := (.ic .eql jse1_233 (.li 3))
def jse1_236 : E := (.tf jse1_232 (.i2f (.f2i (.fb .quo (.i2f (.ib .sub .i64 (.ai 9 0 (.ci (.ib .quo .i64 (.at 1 7) (.li 11)) (.ci (.li 33) .n0))) (.li 16))) (.lf 4620693217682128896)))) (.tf jse1_234 (.fb .add (.vf 194) (.vf 195)) (.tf jse1_235 (.fb .sub (.vf 194) (.vf 195)) (.fb .mul (.vf 194) (.vf 195)))))
def jse1_237 : E := (.ib .sub .i64 (.ib .sub .i64 (.li 10) jse1_9) (.li 8))
def jse1_238 : E := (.ic .eql jse1_237 (.li 0))
def jse1_239 : E := (.ic .eql jse1_237 (.li 1))
def jse1_240 : E := (.tf jse1_232 (.lf 0) (.tf jse1_234 (.fb .add (.vf 196) (.vf 197)) (.tf jse1_235 (.fb .sub (.vf 196) (.vf 197)) (.fb .add (.fb .mul (.vf 196) (.vf 195)) (.fb .mul (.vf 194) (.vf 197))))))
def jse1_241 : E := (.tf jse1_232 (.lf 0) (.tf jse1_234 (.fb .add (.vf 198) (.vf 199)) (.tf jse1_235 (.fb .sub (.vf 198) (.vf 199)) (.fb .add (.fb .mul (.vf 198) (.vf 195)) (.fb .mul (.vf 194) (.vf 199))))))
def jsN1 : Nms := [(2847914521, 100, (.fb .sub jse1_8 jse1_13)),
  (3635152945, 101, (.fb .sub jse1_14 jse1_15)),
  (3569293315, 102, (.fb .add jse1_8 jse1_13)),
  (61564448, 103, (.fb .add jse1_14 jse1_15)),
  (694891659, 104, (.fb .add jse1_19 jse1_23)),
  (4268480156, 105, (.fb .sub jse1_19 jse1_23)),
  (3547101362, 106, (.fb .mul jse1_19 jse1_23)),
  (249769955, 107, (.fb .mul jse1_24 jse1_23)),
  (3284215096, 108, (.fb .mul jse1_19 jse1_25)),
  (241577959, 109, (.fb .mul jse1_26 jse1_23)),
  (3344895898, 110, (.fb .mul jse1_19 jse1_27)),
  (4178415481, 111, (.fb .sub jse1_36 jse1_40)),
  (2181934904, 112, (.fb .sub jse1_42 jse1_43)),
  (25147691, 113, (.fb .sub jse1_45 jse1_46)),
  (604826984, 114, (.fb .add jse1_36 jse1_40)),
  (2903313698, 115, (.fb .add jse1_42 jse1_43)),
  (746526485, 116, (.fb .add jse1_45 jse1_46)),
  (3076045082, 117, (.fb .add jse1_51 jse1_56)),
  (4026864870, 118, (.fb .add jse1_57 jse1_58)),
  (2539697286, 119, (.fb .add jse1_59 jse1_60)),
  (2354666288, 120, (.fb .sub jse1_51 jse1_56)),
  (3305486076, 121, (.fb .sub jse1_57 jse1_58)),
  (1818318492, 122, (.fb .sub jse1_59 jse1_60)),
  (1633287494, 123, (.fb .mul jse1_51 jse1_56)),
  (2669696097, 124, (.fb .mul jse1_57 jse1_56)),
  (1547698679, 125, (.fb .mul jse1_51 jse1_58)),
  (844122291, 126, (.fb .mul jse1_59 jse1_56)),
  (1886104901, 127, (.fb .mul jse1_51 jse1_60)),
  (1372881302, 128, (.tf jse1_62 jse1_7 (.tf jse1_63 jse1_35 jse1_68))),
  (3375886051, 129, (.tf jse1_70 jse1_7 (.tf jse1_71 jse1_35 jse1_68))),
  (2907824086, 130, (.tf jse1_62 (.lf 0) (.tf jse1_63 jse1_41 jse1_72))),
  (615861544, 131, (.tf jse1_70 (.lf 0) (.tf jse1_71 jse1_41 jse1_72))),
  (1086250294, 132, (.tf jse1_62 (.lf 0) (.tf jse1_63 jse1_44 jse1_73))),
  (3089255043, 133, (.tf jse1_70 (.lf 0) (.tf jse1_71 jse1_44 jse1_73))),
  (1379224922, 134, (.tf jse1_75 jse1_4 (.tf jse1_76 jse1_6 (.tf jse1_77 jse1_7 (.tf jse1_78 jse1_35 jse1_68))))),
  (3849856977, 135, (.tf jse1_80 jse1_4 (.tf jse1_81 jse1_6 (.tf jse1_82 jse1_7 (.tf jse1_83 jse1_35 jse1_68))))),
  (4207947380, 136, (.tf jse1_75 (.lf 4607182418800017408) (.tf jse1_76 (.lf 0) (.tf jse1_77 (.lf 0) (.tf jse1_78 jse1_41 jse1_72))))),
  (2383612144, 137, (.tf jse1_80 (.lf 4607182418800017408) (.tf jse1_81 (.lf 0) (.tf jse1_82 (.lf 0) (.tf jse1_83 jse1_41 jse1_72))))),
  (2386373588, 138, (.tf jse1_75 (.lf 0) (.tf jse1_76 (.lf 4607182418800017408) (.tf jse1_77 (.lf 0) (.tf jse1_78 jse1_44 jse1_73))))),
  (562038352, 139, (.tf jse1_80 (.lf 0) (.tf jse1_81 (.lf 4607182418800017408) (.tf jse1_82 (.lf 0) (.tf jse1_83 jse1_44 jse1_73))))),
  (1232436482, 140, (.tf jse1_85 jse1_35 (.tf jse1_86 jse1_68 jse1_91))),
  (3235441231, 141, (.tf jse1_93 jse1_35 (.tf jse1_94 jse1_68 jse1_91))),
  (324222668, 142, (.tf jse1_85 jse1_41 (.tf jse1_86 jse1_72 jse1_95))),
  (2327227417, 143, (.tf jse1_93 jse1_41 (.tf jse1_94 jse1_72 jse1_95))),
  (4175762815, 144, (.tf jse1_85 jse1_44 (.tf jse1_86 jse1_73 jse1_96))),
  (1883800273, 145, (.tf jse1_93 jse1_44 (.tf jse1_94 jse1_73 jse1_96))),
  (940211252, 146, (.tf jse1_98 jse1_4 (.tf jse1_99 jse1_6 (.tf jse1_100 jse1_7 (.tf jse1_101 jse1_35 (.tf jse1_102 jse1_68 jse1_91)))))),
  (2954759498, 147, (.tf jse1_104 jse1_4 (.tf jse1_105 jse1_6 (.tf jse1_106 jse1_7 (.tf jse1_107 jse1_35 (.tf jse1_108 jse1_68 jse1_91)))))),
  (346884490, 148, (.tf jse1_98 (.lf 4607182418800017408) (.tf jse1_99 (.lf 0) (.tf jse1_100 (.lf 0) (.tf jse1_101 jse1_41 (.tf jse1_102 jse1_72 jse1_95)))))),
  (2361432736, 149, (.tf jse1_104 (.lf 4607182418800017408) (.tf jse1_105 (.lf 0) (.tf jse1_106 (.lf 0) (.tf jse1_107 jse1_41 (.tf jse1_108 jse1_72 jse1_95)))))),
  (4198424637, 150, (.tf jse1_98 (.lf 0) (.tf jse1_99 (.lf 4607182418800017408) (.tf jse1_100 (.lf 0) (.tf jse1_101 jse1_44 (.tf jse1_102 jse1_73 jse1_96)))))),
  (1918005592, 151, (.tf jse1_104 (.lf 0) (.tf jse1_105 (.lf 4607182418800017408) (.tf jse1_106 (.lf 0) (.tf jse1_107 jse1_44 (.tf jse1_108 jse1_73 jse1_96)))))),
  (3155168554, 152, (.tf jse1_110 jse1_68 (.tf jse1_111 jse1_91 jse1_116))),
  (863206012, 153, (.tf jse1_118 jse1_68 (.tf jse1_119 jse1_91 jse1_116))),
  (364401994, 154, (.tf jse1_110 jse1_72 (.tf jse1_111 jse1_95 jse1_120))),
  (2367406743, 155, (.tf jse1_118 jse1_72 (.tf jse1_119 jse1_95 jse1_120))),
  (761458772, 156, (.tf jse1_110 jse1_73 (.tf jse1_111 jse1_96 jse1_121))),
  (2764463521, 157, (.tf jse1_118 jse1_73 (.tf jse1_119 jse1_96 jse1_121))),
  (2205657846, 158, (.tf jse1_123 jse1_4 (.tf jse1_124 jse1_6 (.tf jse1_125 jse1_7 (.tf jse1_126 jse1_35 (.tf jse1_127 jse1_68 (.tf jse1_128 jse1_91 jse1_116))))))),
  (3764122283, 159, (.tf jse1_130 jse1_4 (.tf jse1_131 jse1_6 (.tf jse1_132 jse1_7 (.tf jse1_133 jse1_35 (.tf jse1_134 jse1_68 (.tf jse1_135 jse1_91 jse1_116))))))),
  (2591432741, 160, (.tf jse1_123 (.lf 4607182418800017408) (.tf jse1_124 (.lf 0) (.tf jse1_125 (.lf 0) (.tf jse1_126 jse1_41 (.tf jse1_127 jse1_72 (.tf jse1_128 jse1_95 jse1_120))))))),
  (4149897178, 161, (.tf jse1_130 (.lf 4607182418800017408) (.tf jse1_131 (.lf 0) (.tf jse1_132 (.lf 0) (.tf jse1_133 jse1_41 (.tf jse1_134 jse1_72 (.tf jse1_135 jse1_95 jse1_120))))))),
  (1162915713, 162, (.tf jse1_123 (.lf 0) (.tf jse1_124 (.lf 4607182418800017408) (.tf jse1_125 (.lf 0) (.tf jse1_126 jse1_44 (.tf jse1_127 jse1_73 (.tf jse1_128 jse1_96 jse1_121))))))),
  (2721380150, 163, (.tf jse1_130 (.lf 0) (.tf jse1_131 (.lf 4607182418800017408) (.tf jse1_132 (.lf 0) (.tf jse1_133 jse1_44 (.tf jse1_134 jse1_73 (.tf jse1_135 jse1_96 jse1_121))))))),
  (2600604112, 164, (.tf jse1_137 jse1_91 (.tf jse1_138 jse1_116 jse1_143))),
  (308641570, 165, (.tf jse1_145 jse1_91 (.tf jse1_146 jse1_116 jse1_143))),
  (3844204724, 166, (.tf jse1_137 jse1_95 (.tf jse1_138 jse1_120 jse1_147))),
  (1552242182, 167, (.tf jse1_145 jse1_95 (.tf jse1_146 jse1_120 jse1_147))),
  (1844719497, 168, (.tf jse1_137 jse1_96 (.tf jse1_138 jse1_121 jse1_148))),
  (3847724246, 169, (.tf jse1_145 jse1_96 (.tf jse1_146 jse1_121 jse1_148))),
  (4105479373, 170, (.tf jse1_150 jse1_4 (.tf jse1_151 jse1_6 (.tf jse1_152 jse1_7 (.tf jse1_153 jse1_35 (.tf jse1_154 jse1_68 (.tf jse1_155 jse1_91 (.tf jse1_156 jse1_116 jse1_143)))))))),
  (912892710, 171, (.tf jse1_158 jse1_4 (.tf jse1_159 jse1_6 (.tf jse1_160 jse1_7 (.tf jse1_161 jse1_35 (.tf jse1_162 jse1_68 (.tf jse1_163 jse1_91 (.tf jse1_164 jse1_116 jse1_143)))))))),
  (3526324211, 172, (.tf jse1_150 (.lf 4607182418800017408) (.tf jse1_151 (.lf 0) (.tf jse1_152 (.lf 0) (.tf jse1_153 jse1_41 (.tf jse1_154 jse1_72 (.tf jse1_155 jse1_95 (.tf jse1_156 jse1_120 jse1_147)))))))),
  (333737548, 173, (.tf jse1_158 (.lf 4607182418800017408) (.tf jse1_159 (.lf 0) (.tf jse1_160 (.lf 0) (.tf jse1_161 jse1_41 (.tf jse1_162 jse1_72 (.tf jse1_163 jse1_95 (.tf jse1_164 jse1_120 jse1_147)))))))),
  (1112717299, 174, (.tf jse1_150 (.lf 0) (.tf jse1_151 (.lf 4607182418800017408) (.tf jse1_152 (.lf 0) (.tf jse1_153 jse1_44 (.tf jse1_154 jse1_73 (.tf jse1_155 jse1_96 (.tf jse1_156 jse1_121 jse1_148)))))))),
  (2215097927, 175, (.tf jse1_158 (.lf 0) (.tf jse1_159 (.lf 4607182418800017408) (.tf jse1_160 (.lf 0) (.tf jse1_161 jse1_44 (.tf jse1_162 jse1_73 (.tf jse1_163 jse1_96 (.tf jse1_164 jse1_121 jse1_148)))))))),
  (3385240417, 176, (.tf jse1_166 jse1_116 (.tf jse1_167 jse1_143 jse1_172))),
  (1093277875, 177, (.tf jse1_174 jse1_116 (.tf jse1_175 jse1_143 jse1_172))),
  (3406640972, 178, (.tf jse1_166 jse1_120 (.tf jse1_167 jse1_147 jse1_176))),
  (1114678430, 179, (.tf jse1_174 jse1_120 (.tf jse1_175 jse1_147 jse1_176))),
  (1407155745, 180, (.tf jse1_166 jse1_121 (.tf jse1_167 jse1_148 jse1_177))),
  (3410160494, 181, (.tf jse1_174 jse1_121 (.tf jse1_175 jse1_148 jse1_177))),
  (2344708542, 182, (.tf jse1_179 jse1_4 (.tf jse1_180 jse1_6 (.tf jse1_181 jse1_7 (.tf jse1_182 jse1_35 (.tf jse1_183 jse1_68 (.tf jse1_184 jse1_91 (.tf jse1_185 jse1_116 (.tf jse1_186 jse1_143 jse1_172))))))))),
  (2991005361, 183, (.tf jse1_188 jse1_4 (.tf jse1_189 jse1_6 (.tf jse1_190 jse1_7 (.tf jse1_191 jse1_35 (.tf jse1_192 jse1_68 (.tf jse1_193 jse1_91 (.tf jse1_194 jse1_116 (.tf jse1_195 jse1_143 jse1_172))))))))),
  (3151558900, 184, (.tf jse1_179 (.lf 4607182418800017408) (.tf jse1_180 (.lf 0) (.tf jse1_181 (.lf 0) (.tf jse1_182 jse1_41 (.tf jse1_183 jse1_72 (.tf jse1_184 jse1_95 (.tf jse1_185 jse1_120 (.tf jse1_186 jse1_147 jse1_176))))))))),
  (3797855719, 185, (.tf jse1_188 (.lf 4607182418800017408) (.tf jse1_189 (.lf 0) (.tf jse1_190 (.lf 0) (.tf jse1_191 jse1_41 (.tf jse1_192 jse1_72 (.tf jse1_193 jse1_95 (.tf jse1_194 jse1_120 (.tf jse1_195 jse1_147 jse1_176))))))))),
  (4047829395, 186, (.tf jse1_179 (.lf 0) (.tf jse1_180 (.lf 4607182418800017408) (.tf jse1_181 (.lf 0) (.tf jse1_182 jse1_44 (.tf jse1_183 jse1_73 (.tf jse1_184 jse1_96 (.tf jse1_185 jse1_121 (.tf jse1_186 jse1_148 jse1_177))))))))),
  (399158923, 187, (.tf jse1_188 (.lf 0) (.tf jse1_189 (.lf 4607182418800017408) (.tf jse1_190 (.lf 0) (.tf jse1_191 jse1_44 (.tf jse1_192 jse1_73 (.tf jse1_193 jse1_96 (.tf jse1_194 jse1_121 (.tf jse1_195 jse1_148 jse1_177))))))))),
  (4169876722, 188, (.tf jse1_197 jse1_143 (.tf jse1_198 jse1_172 jse1_203))),
  (1877914180, 189, (.tf jse1_205 jse1_143 (.tf jse1_206 jse1_172 jse1_203))),
  (2969077220, 190, (.tf jse1_197 jse1_147 (.tf jse1_198 jse1_176 jse1_207))),
  (677114678, 191, (.tf jse1_205 jse1_147 (.tf jse1_206 jse1_176 jse1_207))),
  (969591993, 192, (.tf jse1_197 jse1_148 (.tf jse1_198 jse1_177 jse1_208))),
  (2972596742, 193, (.tf jse1_205 jse1_148 (.tf jse1_206 jse1_177 jse1_208))),
  (1218312644, 194, (.tf jse1_210 jse1_4 (.tf jse1_211 jse1_6 (.tf jse1_212 jse1_7 (.tf jse1_213 jse1_35 (.tf jse1_214 jse1_68 (.tf jse1_215 jse1_91 (.tf jse1_216 jse1_116 (.tf jse1_217 jse1_143 (.tf jse1_218 jse1_172 jse1_203)))))))))),
  (1408525654, 195, (.tf jse1_220 jse1_4 (.tf jse1_221 jse1_6 (.tf jse1_222 jse1_7 (.tf jse1_223 jse1_35 (.tf jse1_224 jse1_68 (.tf jse1_225 jse1_91 (.tf jse1_226 jse1_116 (.tf jse1_227 jse1_143 (.tf jse1_228 jse1_172 jse1_203)))))))))),
  (1467136808, 196, (.tf jse1_210 (.lf 4607182418800017408) (.tf jse1_211 (.lf 0) (.tf jse1_212 (.lf 0) (.tf jse1_213 jse1_41 (.tf jse1_214 jse1_72 (.tf jse1_215 jse1_95 (.tf jse1_216 jse1_120 (.tf jse1_217 jse1_147 (.tf jse1_218 jse1_176 jse1_207)))))))))),
  (1657349818, 197, (.tf jse1_220 (.lf 4607182418800017408) (.tf jse1_221 (.lf 0) (.tf jse1_222 (.lf 0) (.tf jse1_223 jse1_41 (.tf jse1_224 jse1_72 (.tf jse1_225 jse1_95 (.tf jse1_226 jse1_120 (.tf jse1_227 jse1_147 (.tf jse1_228 jse1_176 jse1_207)))))))))),
  (1378317419, 198, (.tf jse1_210 (.lf 0) (.tf jse1_211 (.lf 4607182418800017408) (.tf jse1_212 (.lf 0) (.tf jse1_213 jse1_44 (.tf jse1_214 jse1_73 (.tf jse1_215 jse1_96 (.tf jse1_216 jse1_121 (.tf jse1_217 jse1_148 (.tf jse1_218 jse1_177 jse1_208)))))))))),
  (1568530429, 199, (.tf jse1_220 (.lf 0) (.tf jse1_221 (.lf 4607182418800017408) (.tf jse1_222 (.lf 0) (.tf jse1_223 jse1_44 (.tf jse1_224 jse1_73 (.tf jse1_225 jse1_96 (.tf jse1_226 jse1_121 (.tf jse1_227 jse1_148 (.tf jse1_228 jse1_177 jse1_208)))))))))),
  (659545736, 200, (.tf jse1_230 jse1_172 (.tf jse1_231 jse1_203 jse1_236))),
  (2662550485, 201, (.tf jse1_238 jse1_172 (.tf jse1_239 jse1_203 jse1_236))),
  (2531513468, 202, (.tf jse1_230 jse1_176 (.tf jse1_231 jse1_207 jse1_240))),
  (239550926, 203, (.tf jse1_238 jse1_176 (.tf jse1_239 jse1_207 jse1_240))),
  (532028241, 204, (.tf jse1_230 jse1_177 (.tf jse1_231 jse1_208 jse1_241))),
  (2535032990, 205, (.tf jse1_238 jse1_177 (.tf jse1_239 jse1_208 jse1_241)))]
set_option maxRecDepth 1000000 in
set_option maxHeartbeats 100000000 in
theorem jsG1 : tabGood 100 jsN1 = true := by kernel_rfl
end Go.Proofs.Ytkaliagakdecaaa
