/-
  'TapeWider': what names stand for, where the first rest is 2.
-/
import Derived.Test.YtilhcamdjehpnaaM3s
namespace Go.Proofs.Ytilhcamdjehpnaa
open Go.RowKit Ex
def ue2_0 : E := (.ib .quo .i64 (.vi 0) (.li 3))
def ue2_1 : E := (.ai 9 0 (.ci (.ib .add .i64 ue2_0 (.li 0)) (.ci (.li 3) .n0)))
def ue2_2 : E := (.ib .sub .i64 (.ib .sub .i64 (.li 3) ue2_1) (.li 1))
def ue2_3 : E := (.ic .eql ue2_2 (.li 0))
def ue2_4 : E := (.fb .quo (.i2f (.ib .sub .i64 (.ai 9 0 (.ci (.ti (.ic .lss (.li 1) (.vl 3)) (.at 3 1) (.li 1)) (.ci (.li 65) .n0))) (.li 32))) (.lf 4620693217682128896))
def ue2_5 : E := (.ic .eql ue2_2 (.li 1))
def ue2_6 : E := (.fb .quo (.i2f (.ib .sub .i64 (.ai 9 0 (.ci (.ti (.ic .lss (.li 2) (.vl 3)) (.at 3 2) (.li 2)) (.ci (.li 65) .n0))) (.li 32))) (.lf 4620693217682128896))
def ue2_7 : E := (.fb .quo (.i2f (.ib .sub .i64 (.ai 9 0 (.ci (.vi 0) (.ci (.li 17) .n0))) (.li 8))) (.lf 4616189618054758400))
def ue2_8 : E := (.ti (.ic .lss (.li 1) (.vl 4)) (.at 4 1) (.li 1))
def ue2_9 : E := (.ai 9 0 (.ci ue2_8 (.ci (.li 3) .n0)))
def ue2_10 : E := (.fb .add ue2_4 (.i2f ue2_9))
def ue2_11 : E := (.ti (.ic .lss (.li 2) (.vl 4)) (.at 4 2) (.li 2))
def ue2_12 : E := (.ai 9 0 (.ci ue2_11 (.ci (.li 3) .n0)))
def ue2_13 : E := (.fb .add ue2_6 (.i2f ue2_12))
def ue2_14 : E := (.ai 9 0 (.ci (.ib .add .i64 ue2_0 (.li 1)) (.ci (.li 3) .n0)))
def ue2_15 : E := (.ib .sub .i64 (.ib .sub .i64 (.li 3) ue2_14) (.li 1))
def ue2_16 : E := (.ic .eql ue2_15 (.li 0))
def ue2_17 : E := (.ic .eql ue2_15 (.li 1))
def ue2_18 : E := (.ai 9 0 (.ci (.ib .add .i64 ue2_0 (.li 2)) (.ci (.li 3) .n0)))
def ue2_19 : E := (.ib .sub .i64 (.ib .sub .i64 (.li 3) ue2_18) (.li 1))
def ue2_20 : E := (.ic .eql ue2_19 (.li 0))
def ue2_21 : E := (.ic .eql ue2_19 (.li 1))
def ue2_22 : E := (.fb .sub ue2_4 (.i2f (.ai 9 0 (.ci (.ib .quo .i64 ue2_8 (.li 3)) (.ci (.li 3) .n0)))))
def ue2_23 : E := (.fb .sub ue2_6 (.i2f (.ai 9 0 (.ci (.ib .quo .i64 ue2_11 (.li 3)) (.ci (.li 3) .n0)))))
def ue2_24 : E := (.fb .add ue2_4 (.i2f (.ib .add .i64 ue2_9 (.ai 9 0 (.ci (.ib .quo .i64 ue2_8 (.li 9)) (.ci (.li 3) .n0))))))
def ue2_25 : E := (.fb .add ue2_6 (.i2f (.ib .add .i64 ue2_12 (.ai 9 0 (.ci (.ib .quo .i64 ue2_11 (.li 9)) (.ci (.li 3) .n0))))))
def ue2_26 : E := (.ic .eql (.ai 9 0 (.ci (.at 1 0) (.ci (.li 11) .n0))) (.li 0))
def ue2_27 : E := (.ti ue2_26 (.li 0) (.ai 9 0 (.ci (.ib .quo .i64 (.at 1 0) (.li 4)) (.ci (.li 4) .n0))))
def ue2_28 : E := (.ic .eql ue2_27 (.li 0))
def ue2_29 : E := (.fb .quo (.i2f (.ib .sub .i64 (.ai 9 0 (.ci (.ti (.ic .lss (.li 0) (.vl 3)) (.at 3 0) (.li 0)) (.ci (.li 65) .n0))) (.li 32))) (.lf 4620693217682128896))
def ue2_30 : E := (.ic .eql ue2_27 (.li 1))
def ue2_31 : E := (.ic .eql ue2_27 (.li 2))
def ue2_32 : E := (.ti (.ic .lss (.li 0) (.vl 4)) (.at 4 0) (.li 0))
def ue2_33 : E := (.ai 9 0 (.ci ue2_32 (.ci (.li 3) .n0)))
def ue2_34 : E := (.fb .add ue2_29 (.i2f ue2_33))
def ue2_35 : E := (.ti ue2_26 (.li 0) (.ai 9 0 (.ci (.ib .quo .i64 (.at 1 0) (.li 40)) (.ci (.li 4) .n0))))
def ue2_36 : E := (.ic .eql ue2_35 (.li 0))
def ue2_37 : E := (.ic .eql ue2_35 (.li 1))
def ue2_38 : E := (.ic .eql ue2_35 (.li 2))
def ue2_39 : E := (.ib .add .i64 (.li 2) (.ai 9 0 (.ci (.at 1 0) (.ci (.li 3) .n0))))
def ue2_40 : E := (.ic .eql ue2_39 (.li 3))
def ue2_41 : E := (.ic .eql ue2_39 (.li 2))
def ue2_42 : E := (.ic .eql (.ai 9 0 (.ci (.at 1 0) (.ci (.li 7) .n0))) (.li 0))
def ue2_43 : E := (.tf ue2_26 (.fb .quo (.i2f (.ib .sub .i64 (.ai 9 0 (.ci (.ib .quo .i64 (.at 1 0) (.li 11)) (.ci (.li 33) .n0))) (.li 16))) (.lf 4620693217682128896)) (.lf 0))
def ue2_44 : E := (.ib .sub .i64 (.ib .sub .i64 (.li 4) ue2_1) (.li 2))
def ue2_45 : E := (.ic .eql ue2_44 (.li 0))
def ue2_46 : E := (.ic .eql ue2_44 (.li 1))
def ue2_47 : E := (.ib .sub .i64 (.ib .sub .i64 (.li 4) ue2_14) (.li 2))
def ue2_48 : E := (.ic .eql ue2_47 (.li 0))
def ue2_49 : E := (.ic .eql ue2_47 (.li 1))
def ue2_50 : E := (.ib .sub .i64 (.ib .sub .i64 (.li 4) ue2_18) (.li 2))
def ue2_51 : E := (.ic .eql ue2_50 (.li 0))
def ue2_52 : E := (.ic .eql ue2_50 (.li 1))
def ue2_53 : E := (.fb .sub ue2_29 (.i2f (.ai 9 0 (.ci (.ib .quo .i64 ue2_32 (.li 3)) (.ci (.li 3) .n0)))))
def ue2_54 : E := (.fb .add ue2_29 (.i2f (.ib .add .i64 ue2_33 (.ai 9 0 (.ci (.ib .quo .i64 ue2_32 (.li 9)) (.ci (.li 3) .n0))))))
def ue2_55 : E := (.ic .eql (.ai 9 0 (.ci (.at 1 1) (.ci (.li 11) .n0))) (.li 0))
def ue2_56 : E := (.ti ue2_55 (.li 0) (.ai 9 0 (.ci (.ib .quo .i64 (.at 1 1) (.li 4)) (.ci (.li 5) .n0))))
def ue2_57 : E := (.ic .eql ue2_56 (.li 0))
def ue2_58 : E := (.ic .eql ue2_56 (.li 1))
def ue2_59 : E := (.ic .eql ue2_56 (.li 2))
def ue2_60 : E := (.ic .eql ue2_56 (.li 3))
def ue2_61 : E := (.ti ue2_55 (.li 0) (.ai 9 0 (.ci (.ib .quo .i64 (.at 1 1) (.li 40)) (.ci (.li 5) .n0))))
def ue2_62 : E := (.ic .eql ue2_61 (.li 0))
def ue2_63 : E := (.ic .eql ue2_61 (.li 1))
def ue2_64 : E := (.ic .eql ue2_61 (.li 2))
def ue2_65 : E := (.ic .eql ue2_61 (.li 3))
def ue2_66 : E := (.ib .add .i64 (.li 2) (.ai 9 0 (.ci (.at 1 1) (.ci (.li 3) .n0))))
def ue2_67 : E := (.ic .eql ue2_66 (.li 3))
def ue2_68 : E := (.ic .eql ue2_66 (.li 2))
def ue2_69 : E := (.ic .eql (.ai 9 0 (.ci (.at 1 1) (.ci (.li 7) .n0))) (.li 0))
def ue2_70 : E := (.tf ue2_55 (.fb .quo (.i2f (.ib .sub .i64 (.ai 9 0 (.ci (.ib .quo .i64 (.at 1 1) (.li 11)) (.ci (.li 33) .n0))) (.li 16))) (.lf 4620693217682128896)) (.lf 0))
def ue2_71 : E := (.ib .sub .i64 (.ib .sub .i64 (.li 5) ue2_1) (.li 3))
def ue2_72 : E := (.ic .eql ue2_71 (.li 0))
def ue2_73 : E := (.ic .eql ue2_71 (.li 1))
def ue2_74 : E := (.ib .sub .i64 (.ib .sub .i64 (.li 5) ue2_14) (.li 3))
def ue2_75 : E := (.ic .eql ue2_74 (.li 0))
def ue2_76 : E := (.ic .eql ue2_74 (.li 1))
def ue2_77 : E := (.ib .sub .i64 (.ib .sub .i64 (.li 5) ue2_18) (.li 3))
def ue2_78 : E := (.ic .eql ue2_77 (.li 0))
def ue2_79 : E := (.ic .eql ue2_77 (.li 1))
def ue2_80 : E := (.ic .eql (.ai 9 0 (.ci (.at 1 2) (.ci (.li 11) .n0))) (.li 0))
def ue2_81 : E := (.ti ue2_80 (.li 0) (.ai 9 0 (.ci (.ib .quo .i64 (.at 1 2) (.li 4)) (.ci (.li 6) .n0))))
def ue2_82 : E := (.ic .eql ue2_81 (.li 0))
def ue2_83 : E := (.ic .eql ue2_81 (.li 1))
def ue2_84 : E := (.ic .eql ue2_81 (.li 2))
def ue2_85 : E := (.ic .eql ue2_81 (.li 3))
def ue2_86 : E := (.ic .eql ue2_81 (.li 4))
def ue2_87 : E := (.ti ue2_80 (.li 0) (.ai 9 0 (.ci (.ib .quo .i64 (.at 1 2) (.li 40)) (.ci (.li 6) .n0))))
def ue2_88 : E := (.ic .eql ue2_87 (.li 0))
def ue2_89 : E := (.ic .eql ue2_87 (.li 1))
def ue2_90 : E := (.ic .eql ue2_87 (.li 2))
def ue2_91 : E := (.ic .eql ue2_87 (.li 3))
def ue2_92 : E := (.ic .eql ue2_87 (.li 4))
def ue2_93 : E := (.ib .add .i64 (.li 2) (.ai 9 0 (.ci (.at 1 2) (.ci (.li 3) .n0))))
def ue2_94 : E := (.ic .eql ue2_93 (.li 3))
def ue2_95 : E := (.ic .eql ue2_93 (.li 2))
def ue2_96 : E := (.ic .eql (.ai 9 0 (.ci (.at 1 2) (.ci (.li 7) .n0))) (.li 0))
def ue2_97 : E := (.tf ue2_80 (.fb .quo (.i2f (.ib .sub .i64 (.ai 9 0 (.ci (.ib .quo .i64 (.at 1 2) (.li 11)) (.ci (.li 33) .n0))) (.li 16))) (.lf 4620693217682128896)) (.lf 0))
def ue2_98 : E := (.ib .sub .i64 (.ib .sub .i64 (.li 6) ue2_1) (.li 4))
def ue2_99 : E := (.ic .eql ue2_98 (.li 0))
def ue2_100 : E := (.ic .eql ue2_98 (.li 1))
def ue2_101 : E := (.ib .sub .i64 (.ib .sub .i64 (.li 6) ue2_14) (.li 4))
def ue2_102 : E := (.ic .eql ue2_101 (.li 0))
def ue2_103 : E := (.ic .eql ue2_101 (.li 1))
def ue2_104 : E := (.ib .sub .i64 (.ib .sub .i64 (.li 6) ue2_18) (.li 4))
def ue2_105 : E := (.ic .eql ue2_104 (.li 0))
def ue2_106 : E := (.ic .eql ue2_104 (.li 1))
def ue2_107 : E := (.ic .eql (.ai 9 0 (.ci (.at 1 3) (.ci (.li 11) .n0))) (.li 0))
def ue2_108 : E := (.ti ue2_107 (.li 0) (.ai 9 0 (.ci (.ib .quo .i64 (.at 1 3) (.li 4)) (.ci (.li 7) .n0))))
def ue2_109 : E := (.ic .eql ue2_108 (.li 0))
def ue2_110 : E := (.ic .eql ue2_108 (.li 1))
def ue2_111 : E := (.ic .eql ue2_108 (.li 2))
def ue2_112 : E := (.ic .eql ue2_108 (.li 3))
def ue2_113 : E := (.ic .eql ue2_108 (.li 4))
def ue2_114 : E := (.ic .eql ue2_108 (.li 5))
def ue2_115 : E := (.ti ue2_107 (.li 0) (.ai 9 0 (.ci (.ib .quo .i64 (.at 1 3) (.li 40)) (.ci (.li 7) .n0))))
def ue2_116 : E := (.ic .eql ue2_115 (.li 0))
def ue2_117 : E := (.ic .eql ue2_115 (.li 1))
def ue2_118 : E := (.ic .eql ue2_115 (.li 2))
def ue2_119 : E := (.ic .eql ue2_115 (.li 3))
def ue2_120 : E := (.ic .eql ue2_115 (.li 4))
def ue2_121 : E := (.ic .eql ue2_115 (.li 5))
def ue2_122 : E := (.ib .add .i64 (.li 2) (.ai 9 0 (.ci (.at 1 3) (.ci (.li 3) .n0))))
def ue2_123 : E := (.ic .eql ue2_122 (.li 3))
def ue2_124 : E := (.ic .eql ue2_122 (.li 2))
def ue2_125 : E := (.ic .eql (.ai 9 0 (.ci (.at 1 3) (.ci (.li 7) .n0))) (.li 0))
def ue2_126 : E := (.tf ue2_107 (.fb .quo (.i2f (.ib .sub .i64 (.ai 9 0 (.ci (.ib .quo .i64 (.at 1 3) (.li 11)) (.ci (.li 33) .n0))) (.li 16))) (.lf 4620693217682128896)) (.lf 0))
def ue2_127 : E := (.ib .sub .i64 (.ib .sub .i64 (.li 7) ue2_1) (.li 5))
def ue2_128 : E := (.ic .eql ue2_127 (.li 0))
def ue2_129 : E := (.ic .eql ue2_127 (.li 1))
def ue2_130 : E := (.ib .sub .i64 (.ib .sub .i64 (.li 7) ue2_14) (.li 5))
def ue2_131 : E := (.ic .eql ue2_130 (.li 0))
def ue2_132 : E := (.ic .eql ue2_130 (.li 1))
def ue2_133 : E := (.ib .sub .i64 (.ib .sub .i64 (.li 7) ue2_18) (.li 5))
def ue2_134 : E := (.ic .eql ue2_133 (.li 0))
def ue2_135 : E := (.ic .eql ue2_133 (.li 1))
def ue2_136 : E := (.ic .eql (.ai 9 0 (.ci (.at 1 4) (.ci (.li 11) .n0))) (.li 0))
def ue2_137 : E := (.ti ue2_136 (.li 0) (.ai 9 0 (.ci (.ib .quo .i64 (.at 1 4) (.li 4)) (.ci (.li 8) .n0))))
def ue2_138 : E := (.ic .eql ue2_137 (.li 0))
def ue2_139 : E := (.ic .eql ue2_137 (.li 1))
def ue2_140 : E := (.ic .eql ue2_137 (.li 2))
def ue2_141 : E := (.ic .eql ue2_137 (.li 3))
def ue2_142 : E := (.ic .eql ue2_137 (.li 4))
def ue2_143 : E := (.ic .eql ue2_137 (.li 5))
def ue2_144 : E := (.ic .eql ue2_137 (.li 6))
def ue2_145 : E := (.ti ue2_136 (.li 0) (.ai 9 0 (.ci (.ib .quo .i64 (.at 1 4) (.li 40)) (.ci (.li 8) .n0))))
def ue2_146 : E := (.ic .eql ue2_145 (.li 0))
def ue2_147 : E := (.ic .eql ue2_145 (.li 1))
def ue2_148 : E := (.ic .eql ue2_145 (.li 2))
def ue2_149 : E := (.ic .eql ue2_145 (.li 3))
def ue2_150 : E := (.ic .eql ue2_145 (.li 4))
def ue2_151 : E := (.ic .eql ue2_145 (.li 5))
def ue2_152 : E := (.ic .eql ue2_145 (.li 6))
def ue2_153 : E := (.ib .add .i64 (.li 2) (.ai 9 0 (.ci (.at 1 4) (.ci (.li 3) .n0))))
def ue2_154 : E := (.ic .eql ue2_153 (.li 3))
def ue2_155 : E := (.ic .eql ue2_153 (.li 2))
def ue2_156 : E := (.ic .eql (.ai 9 0 (.ci (.at 1 4) (.ci (.li 7) .n0))) (.li 0))
def ue2_157 : E := (.tf ue2_136 (.fb .quo (.i2f (.ib .sub .i64 (.ai 9 0 (.ci (.ib .quo .i64 (.at 1 4) (.li 11)) (.ci (.li 33) .n0))) (.li 16))) (.lf 4620693217682128896)) (.lf 0))
def ue2_158 : E := (.ib .sub .i64 (.ib .sub .i64 (.li 8) ue2_1) (.li 6))
def ue2_159 : E := (.ic .eql ue2_158 (.li 0))
def ue2_160 : E := (.ic .eql ue2_158 (.li 1))
def ue2_161 : E := (.ib .sub .i64 (.ib .sub .i64 (.li 8) ue2_14) (.li 6))
def ue2_162 : E := (.ic .eql ue2_161 (.li 0))
def ue2_163 : E := (.ic .eql ue2_161 (.li 1))
def ue2_164 : E := (.ib .sub .i64 (.ib .sub .i64 (.li 8) ue2_18) (.li 6))
def ue2_165 : E := (.ic .eql ue2_164 (.li 0))
def ue2_166 : E := (.ic .eql ue2_164 (.li 1))
def ue2_167 : E := (.ic .eql (.ai 9 0 (.ci (.at 1 5) (.ci (.li 11) .n0))) (.li 0))
def ue2_168 : E := (.ti ue2_167 (.li 0) (.ai 9 0 (.ci (.ib .quo .i64 (.at 1 5) (.li 4)) (.ci (.li 9) .n0))))
def ue2_169 : E := (.ic .eql ue2_168 (.li 0))
def ue2_170 : E := (.ic .eql ue2_168 (.li 1))
def ue2_171 : E := (.ic .eql ue2_168 (.li 2))
def ue2_172 : E := (.ic .eql ue2_168 (.li 3))
def ue2_173 : E := (.ic .eql ue2_168 (.li 4))
def ue2_174 : E := (.ic .eql ue2_168 (.li 5))
def ue2_175 : E := (.ic .eql ue2_168 (.li 6))
def ue2_176 : E := (.ic .eql ue2_168 (.li 7))
def ue2_177 : E := (.ti ue2_167 (.li 0) (.ai 9 0 (.ci (.ib .quo .i64 (.at 1 5) (.li 40)) (.ci (.li 9) .n0))))
def ue2_178 : E := (.ic .eql ue2_177 (.li 0))
def ue2_179 : E := (.ic .eql ue2_177 (.li 1))
def ue2_180 : E := (.ic .eql ue2_177 (.li 2))
def ue2_181 : E := (.ic .eql ue2_177 (.li 3))
def ue2_182 : E := (.ic .eql ue2_177 (.li 4))
def ue2_183 : E := (.ic .eql ue2_177 (.li 5))
def ue2_184 : E := (.ic .eql ue2_177 (.li 6))
def ue2_185 : E := (.ic .eql ue2_177 (.li 7))
def ue2_186 : E := (.ib .add .i64 (.li 2) (.ai 9 0 (.ci (.at 1 5) (.ci (.li 3) .n0))))
def ue2_187 : E := (.ic .eql ue2_186 (.li 3))
def ue2_188 : E := (.ic .eql ue2_186 (.li 2))
def ue2_189 : E := (.ic .eql (.ai 9 0 (.ci (.at 1 5) (.ci (.li 7) .n0))) (.li 0))
def ue2_190 : E := (.tf ue2_167 (.fb .quo (.i2f (.ib .sub .i64 (.ai 9 0 (.ci (.ib .quo .i64 (.at 1 5) (.li 11)) (.ci (.li 33) .n0))) (.li 16))) (.lf 4620693217682128896)) (.lf 0))
def ue2_191 : E := (.ib .sub .i64 (.ib .sub .i64 (.li 9) ue2_1) (.li 7))
def ue2_192 : E := (.ic .eql ue2_191 (.li 0))
def ue2_193 : E := (.ic .eql ue2_191 (.li 1))
def ue2_194 : E := (.ib .sub .i64 (.ib .sub .i64 (.li 9) ue2_14) (.li 7))
def ue2_195 : E := (.ic .eql ue2_194 (.li 0))
def ue2_196 : E := (.ic .eql ue2_194 (.li 1))
def ue2_197 : E := (.ib .sub .i64 (.ib .sub .i64 (.li 9) ue2_18) (.li 7))
def ue2_198 : E := (.ic .eql ue2_197 (.li 0))
def ue2_199 : E := (.ic .eql ue2_197 (.li 1))
def ue2_200 : E := (.ic .eql (.ai 9 0 (.ci (.at 1 6) (.ci (.li 11) .n0))) (.li 0))
def ue2_201 : E := (.ti ue2_200 (.li 0) (.ai 9 0 (.ci (.ib .quo .i64 (.at 1 6) (.li 4)) (.ci (.li 10) .n0))))
def ue2_202 : E := (.ic .eql ue2_201 (.li 0))
def ue2_203 : E := (.ic .eql ue2_201 (.li 1))
def ue2_204 : E := (.ic .eql ue2_201 (.li 2))
def ue2_205 : E := (.ic .eql ue2_201 (.li 3))
def ue2_206 : E := (.ic .eql ue2_201 (.li 4))
def ue2_207 : E := (.ic .eql ue2_201 (.li 5))
def ue2_208 : E := (.ic .eql ue2_201 (.li 6))
def ue2_209 : E := (.ic .eql ue2_201 (.li 7))
def ue2_210 : E := (.ic .eql ue2_201 (.li 8))
def ue2_211 : E := (.ti ue2_200 (.li 0) (.ai 9 0 (.ci (.ib .quo .i64 (.at 1 6) (.li 40)) (.ci (.li 10) .n0))))
def ue2_212 : E := (.ic .eql ue2_211 (.li 0))
def ue2_213 : E := (.ic .eql ue2_211 (.li 1))
def ue2_214 : E := (.ic .eql ue2_211 (.li 2))
def ue2_215 : E := (.ic .eql ue2_211 (.li 3))
def ue2_216 : E := (.ic .eql ue2_211 (.li 4))
def ue2_217 : E := (.ic .eql ue2_211 (.li 5))
def ue2_218 : E := (.ic .eql ue2_211 (.li 6))
def ue2_219 : E := (.ic .eql ue2_211 (.li 7))
def ue2_220 : E := (.ic .eql ue2_211 (.li 8))
def ue2_221 : E := (.ib .add .i64 (.li 2) (.ai 9 0 (.ci (.at 1 6) (.ci (.li 3) .n0))))
def ue2_222 : E := (.ic .eql ue2_221 (.li 3))
def ue2_223 : E := (.ic .eql ue2_221 (.li 2))
def ue2_224 : E := (.ic .eql (.ai 9 0 (.ci (.at 1 6) (.ci (.li 7) .n0))) (.li 0))
def ue2_225 : E := (.tf ue2_200 (.fb .quo (.i2f (.ib .sub .i64 (.ai 9 0 (.ci (.ib .quo .i64 (.at 1 6) (.li 11)) (.ci (.li 33) .n0))) (.li 16))) (.lf 4620693217682128896)) (.lf 0))
def ue2_226 : E := (.ib .sub .i64 (.ib .sub .i64 (.li 10) ue2_1) (.li 8))
def ue2_227 : E := (.ic .eql ue2_226 (.li 0))
def ue2_228 : E := (.ic .eql ue2_226 (.li 1))
def ue2_229 : E := (.ib .sub .i64 (.ib .sub .i64 (.li 10) ue2_14) (.li 8))
def ue2_230 : E := (.ic .eql ue2_229 (.li 0))
def ue2_231 : E := (.ic .eql ue2_229 (.li 1))
def ue2_232 : E := (.ib .sub .i64 (.ib .sub .i64 (.li 10) ue2_18) (.li 8))
def ue2_233 : E := (.ic .eql ue2_232 (.li 0))
def ue2_234 : E := (.ic .eql ue2_232 (.li 1))
def ue2_235 : E := (.ic .eql (.ai 9 0 (.ci (.at 1 7) (.ci (.li 11) .n0))) (.li 0))
def ue2_236 : E := (.ti ue2_235 (.li 0) (.ai 9 0 (.ci (.ib .quo .i64 (.at 1 7) (.li 4)) (.ci (.li 11) .n0))))
def ue2_237 : E := (.ic .eql ue2_236 (.li 0))
def ue2_238 : E := (.ic .eql ue2_236 (.li 1))
def ue2_239 : E := (.ic .eql ue2_236 (.li 2))
def ue2_240 : E := (.ic .eql ue2_236 (.li 3))
def ue2_241 : E := (.ic .eql ue2_236 (.li 4))
def ue2_242 : E := (.ic .eql ue2_236 (.li 5))
def ue2_243 : E := (.ic .eql ue2_236 (.li 6))
def ue2_244 : E := (.ic .eql ue2_236 (.li 7))
def ue2_245 : E := (.ic .eql ue2_236 (.li 8))
def ue2_246 : E := (.ic .eql ue2_236 (.li 9))
def ue2_247 : E := (.ti ue2_235 (.li 0) (.ai 9 0 (.ci (.ib .quo .i64 (.at 1 7) (.li 40)) (.ci (.li 11) .n0))))
def ue2_248 : E := (.ic .eql ue2_247 (.li 0))
def ue2_249 : E := (.ic .eql ue2_247 (.li 1))
def ue2_250 : E := (.ic .eql ue2_247 (.li 2))
def ue2_251 : E := (.ic .eql ue2_247 (.li 3))
def ue2_252 : E := (.ic .eql ue2_247 (.li 4))
def ue2_253 : E := (.ic .eql ue2_247 (.li 5))
def ue2_254 : E := (.ic .eql ue2_247 (.li 6))
def ue2_255 : E := (.ic .eql ue2_247 (.li 7))
def ue2_256 : E := (.ic .eql ue2_247 (.li 8))
def ue2_257 : E := (.ic .eql ue2_247 (.li 9))
def ue2_258 : E := (.ib .add .i64 (.li 2) (.ai 9 0 (.ci (.at 1 7) (.ci (.li 3) .n0))))
def ue2_259 : E := (.ic .eql ue2_258 (.li 3))
def ue2_260 : E := (.ic .eql ue2_258 (.li 2))
def ue2_261 : E := (.ic .eql (.ai 9 0 (.ci (.at 1 7) (.ci (.li 7) .n0))) (.li 0))
def ue2_262 : E := (.tf ue2_235 (.fb .quo (.i2f (.ib .sub .i64 (.ai 9 0 (.ci (.ib .quo .i64 (.at 1 7) (.li 11)) (.ci (.li 33) .n0))) (.li 16))) (.lf 4620693217682128896)) (.lf 0))
def ue2_263 : E := (.ib .sub .i64 (.ib .sub .i64 (.li 11) ue2_1) (.li 9))
def ue2_264 : E := (.ic .eql ue2_263 (.li 0))
def ue2_265 : E := (.ic .eql ue2_263 (.li 1))
def ue2_266 : E := (.ib .sub .i64 (.ib .sub .i64 (.li 11) ue2_14) (.li 9))
def ue2_267 : E := (.ic .eql ue2_266 (.li 0))
def ue2_268 : E := (.ic .eql ue2_266 (.li 1))
def ue2_269 : E := (.ib .sub .i64 (.ib .sub .i64 (.li 11) ue2_18) (.li 9))
def ue2_270 : E := (.ic .eql ue2_269 (.li 0))
def ue2_271 : E := (.ic .eql ue2_269 (.li 1))
def uN2 : Nms := [(1310748687, 100, (.tf ue2_3 ue2_4 (.tf ue2_5 ue2_6 ue2_7))),
  (2239190612, 101, (.tf ue2_3 ue2_10 (.tf ue2_5 ue2_13 ue2_7))),
  (3313753436, 102, (.tf ue2_16 ue2_4 (.tf ue2_17 ue2_6 ue2_7))),
  (4242195361, 103, (.tf ue2_16 ue2_10 (.tf ue2_17 ue2_13 ue2_7))),
  (1021790894, 104, (.tf ue2_20 ue2_4 (.tf ue2_21 ue2_6 ue2_7))),
  (1950232819, 105, (.tf ue2_20 ue2_10 (.tf ue2_21 ue2_13 ue2_7))),
  (3647893408, 106, (.tf ue2_3 ue2_22 (.tf ue2_5 ue2_23 ue2_7))),
  (3178992574, 107, (.tf ue2_3 ue2_24 (.tf ue2_5 ue2_25 ue2_7))),
  (1355930866, 108, (.tf ue2_16 ue2_22 (.tf ue2_17 ue2_23 ue2_7))),
  (887030032, 109, (.tf ue2_16 ue2_24 (.tf ue2_17 ue2_25 ue2_7))),
  (3358935615, 110, (.tf ue2_20 ue2_22 (.tf ue2_21 ue2_23 ue2_7))),
  (2890034781, 111, (.tf ue2_20 ue2_24 (.tf ue2_21 ue2_25 ue2_7))),
  (3457082686, 112, (.tf ue2_28 ue2_29 (.tf ue2_30 ue2_4 (.tf ue2_31 ue2_6 ue2_7)))),
  (245211222, 113, (.tf ue2_28 ue2_34 (.tf ue2_30 ue2_10 (.tf ue2_31 ue2_13 ue2_7)))),
  (2088831259, 114, (.tf ue2_36 ue2_29 (.tf ue2_37 ue2_4 (.tf ue2_38 ue2_6 ue2_7)))),
  (3171927086, 115, (.tf ue2_36 ue2_34 (.tf ue2_37 ue2_10 (.tf ue2_38 ue2_13 ue2_7)))),
  (675078758, 116, (.af 20 0 (.cf (.vf 112) (.cf (.vf 113) (.cf (.vf 114) (.cf (.vf 115) .n0)))))),
  (676078761, 117, (.af 20 1 (.cf (.vf 112) (.cf (.vf 113) (.cf (.vf 114) (.cf (.vf 115) .n0)))))),
  (4248667255, 118, (.af 21 0 (.cf (.vf 112) (.cf (.vf 113) (.cf (.vf 114) (.cf (.vf 115) .n0)))))),
  (4249667258, 119, (.af 21 1 (.cf (.vf 112) (.cf (.vf 113) (.cf (.vf 114) (.cf (.vf 115) .n0)))))),
  (3527288461, 120, (.af 22 0 (.cf (.vf 112) (.cf (.vf 113) (.cf (.vf 114) (.cf (.vf 115) .n0)))))),
  (3528288464, 121, (.af 22 1 (.cf (.vf 112) (.cf (.vf 113) (.cf (.vf 114) (.cf (.vf 115) .n0)))))),
  (4145447292, 122, (.tf ue2_40 (.vf 119) (.vf 121))),
  (4144447288, 123, (.tf ue2_40 (.vf 118) (.vf 120))),
  (1291237584, 124, (.tf ue2_41 (.vf 117) (.vf 122))),
  (1290237582, 125, (.tf ue2_41 (.vf 116) (.vf 123))),
  (2805909667, 126, (.af 23 0 (.cf (.vf 112) (.cf (.vf 113) (.cf (.vf 114) (.cf (.vf 115) .n0)))))),
  (2806909670, 127, (.af 23 1 (.cf (.vf 112) (.cf (.vf 113) (.cf (.vf 114) (.cf (.vf 115) .n0)))))),
  (348591050, 128, (.tf ue2_42 (.vf 127) (.vf 124))),
  (347591048, 129, (.tf ue2_42 (.vf 126) (.vf 125))),
  (1242405812, 130, (.tf ue2_26 ue2_43 (.tf (.vb 2) (.vf 128) (.vf 124)))),
  (1243405816, 131, (.tf ue2_26 ue2_43 (.tf (.vb 2) (.vf 129) (.vf 125)))),
  (3187446926, 132, (.tf ue2_45 ue2_6 (.tf ue2_46 ue2_7 (.vf 131)))),
  (2323201144, 133, (.tf ue2_45 ue2_13 (.tf ue2_46 ue2_7 (.vf 130)))),
  (895484384, 134, (.tf ue2_48 ue2_6 (.tf ue2_49 ue2_7 (.vf 131)))),
  (31238602, 135, (.tf ue2_48 ue2_13 (.tf ue2_49 ue2_7 (.vf 130)))),
  (2898489133, 136, (.tf ue2_51 ue2_6 (.tf ue2_52 ue2_7 (.vf 131)))),
  (2034243351, 137, (.tf ue2_51 ue2_13 (.tf ue2_52 ue2_7 (.vf 130)))),
  (3625295295, 138, (.tf ue2_28 ue2_53 (.tf ue2_30 ue2_22 (.tf ue2_31 ue2_23 ue2_7)))),
  (3302508599, 139, (.tf ue2_28 ue2_54 (.tf ue2_30 ue2_24 (.tf ue2_31 ue2_25 ue2_7)))),
  (2257043868, 140, (.tf ue2_36 ue2_53 (.tf ue2_37 ue2_22 (.tf ue2_38 ue2_23 ue2_7)))),
  (1934257172, 141, (.tf ue2_36 ue2_54 (.tf ue2_37 ue2_24 (.tf ue2_38 ue2_25 ue2_7)))),
  (779079070, 142, (.af 20 0 (.cf (.vf 138) (.cf (.vf 139) (.cf (.vf 140) (.cf (.vf 141) .n0)))))),
  (780079073, 143, (.af 20 1 (.cf (.vf 138) (.cf (.vf 139) (.cf (.vf 140) (.cf (.vf 141) .n0)))))),
  (57700276, 144, (.af 21 0 (.cf (.vf 138) (.cf (.vf 139) (.cf (.vf 140) (.cf (.vf 141) .n0)))))),
  (58700279, 145, (.af 21 1 (.cf (.vf 138) (.cf (.vf 139) (.cf (.vf 140) (.cf (.vf 141) .n0)))))),
  (3631288773, 146, (.af 22 0 (.cf (.vf 138) (.cf (.vf 139) (.cf (.vf 140) (.cf (.vf 141) .n0)))))),
  (3632288776, 147, (.af 22 1 (.cf (.vf 138) (.cf (.vf 139) (.cf (.vf 140) (.cf (.vf 141) .n0)))))),
  (4171447396, 148, (.tf ue2_40 (.vf 145) (.vf 147))),
  (4170447392, 149, (.tf ue2_40 (.vf 144) (.vf 146))),
  (1317237688, 150, (.tf ue2_41 (.vf 143) (.vf 148))),
  (1316237686, 151, (.tf ue2_41 (.vf 142) (.vf 149))),
  (2909909979, 152, (.af 23 0 (.cf (.vf 138) (.cf (.vf 139) (.cf (.vf 140) (.cf (.vf 141) .n0)))))),
  (2910909982, 153, (.af 23 1 (.cf (.vf 138) (.cf (.vf 139) (.cf (.vf 140) (.cf (.vf 141) .n0)))))),
  (374591154, 154, (.tf ue2_42 (.vf 153) (.vf 150))),
  (373591152, 155, (.tf ue2_42 (.vf 152) (.vf 151))),
  (1268405916, 156, (.tf ue2_26 ue2_43 (.tf (.vb 2) (.vf 154) (.vf 150)))),
  (1269405920, 157, (.tf ue2_26 ue2_43 (.tf (.vb 2) (.vf 155) (.vf 151)))),
  (2605209276, 158, (.tf ue2_45 ue2_23 (.tf ue2_46 ue2_7 (.vf 157)))),
  (3675559770, 159, (.tf ue2_45 ue2_25 (.tf ue2_46 ue2_7 (.vf 156)))),
  (313246734, 160, (.tf ue2_48 ue2_23 (.tf ue2_49 ue2_7 (.vf 157)))),
  (1383597228, 161, (.tf ue2_48 ue2_25 (.tf ue2_49 ue2_7 (.vf 156)))),
  (2316251483, 162, (.tf ue2_51 ue2_23 (.tf ue2_52 ue2_7 (.vf 157)))),
  (3386601977, 163, (.tf ue2_51 ue2_25 (.tf ue2_52 ue2_7 (.vf 156)))),
  (3576773657, 164, (.tf ue2_57 ue2_29 (.tf ue2_58 ue2_4 (.tf ue2_59 ue2_6 (.tf ue2_60 ue2_7 (.vf 131)))))),
  (364902192, 165, (.tf ue2_57 ue2_34 (.tf ue2_58 ue2_10 (.tf ue2_59 ue2_13 (.tf ue2_60 ue2_7 (.vf 130)))))),
  (1752438421, 166, (.tf ue2_62 ue2_29 (.tf ue2_63 ue2_4 (.tf ue2_64 ue2_6 (.tf ue2_65 ue2_7 (.vf 131)))))),
  (2835534247, 167, (.tf ue2_62 ue2_34 (.tf ue2_63 ue2_10 (.tf ue2_64 ue2_13 (.tf ue2_65 ue2_7 (.vf 130)))))),
  (883079382, 168, (.af 20 0 (.cf (.vf 164) (.cf (.vf 165) (.cf (.vf 166) (.cf (.vf 167) .n0)))))),
  (884079385, 169, (.af 20 1 (.cf (.vf 164) (.cf (.vf 165) (.cf (.vf 166) (.cf (.vf 167) .n0)))))),
  (161700588, 170, (.af 21 0 (.cf (.vf 164) (.cf (.vf 165) (.cf (.vf 166) (.cf (.vf 167) .n0)))))),
  (162700591, 171, (.af 21 1 (.cf (.vf 164) (.cf (.vf 165) (.cf (.vf 166) (.cf (.vf 167) .n0)))))),
  (3735289085, 172, (.af 22 0 (.cf (.vf 164) (.cf (.vf 165) (.cf (.vf 166) (.cf (.vf 167) .n0)))))),
  (3736289088, 173, (.af 22 1 (.cf (.vf 164) (.cf (.vf 165) (.cf (.vf 166) (.cf (.vf 167) .n0)))))),
  (552321270, 174, (.tf ue2_67 (.vf 171) (.vf 173))),
  (551321266, 175, (.tf ue2_67 (.vf 170) (.vf 172))),
  (1993078853, 176, (.tf ue2_68 (.vf 169) (.vf 174))),
  (1992078851, 177, (.tf ue2_68 (.vf 168) (.vf 175))),
  (3013910291, 178, (.af 23 0 (.cf (.vf 164) (.cf (.vf 165) (.cf (.vf 166) (.cf (.vf 167) .n0)))))),
  (3014910294, 179, (.af 23 1 (.cf (.vf 164) (.cf (.vf 165) (.cf (.vf 166) (.cf (.vf 167) .n0)))))),
  (1050432319, 180, (.tf ue2_69 (.vf 179) (.vf 176))),
  (1049432317, 181, (.tf ue2_69 (.vf 178) (.vf 177))),
  (603076849, 182, (.tf ue2_55 ue2_70 (.tf (.vb 2) (.vf 180) (.vf 176)))),
  (604076853, 183, (.tf ue2_55 ue2_70 (.tf (.vb 2) (.vf 181) (.vf 177)))),
  (1020454918, 184, (.tf ue2_72 ue2_7 (.tf ue2_73 (.vf 131) (.vf 183)))),
  (1019454914, 185, (.tf ue2_72 ue2_7 (.tf ue2_73 (.vf 130) (.vf 182)))),
  (3023459667, 186, (.tf ue2_75 ue2_7 (.tf ue2_76 (.vf 131) (.vf 183)))),
  (3022459663, 187, (.tf ue2_75 ue2_7 (.tf ue2_76 (.vf 130) (.vf 182)))),
  (731497125, 188, (.tf ue2_78 ue2_7 (.tf ue2_79 (.vf 131) (.vf 183)))),
  (730497121, 189, (.tf ue2_78 ue2_7 (.tf ue2_79 (.vf 130) (.vf 182)))),
  (3744986292, 190, (.tf ue2_57 ue2_53 (.tf ue2_58 ue2_22 (.tf ue2_59 ue2_23 (.tf ue2_60 ue2_7 (.vf 157)))))),
  (3422199595, 191, (.tf ue2_57 ue2_54 (.tf ue2_58 ue2_24 (.tf ue2_59 ue2_25 (.tf ue2_60 ue2_7 (.vf 156)))))),
  (1920651056, 192, (.tf ue2_62 ue2_53 (.tf ue2_63 ue2_22 (.tf ue2_64 ue2_23 (.tf ue2_65 ue2_7 (.vf 157)))))),
  (1597864359, 193, (.tf ue2_62 ue2_54 (.tf ue2_63 ue2_24 (.tf ue2_64 ue2_25 (.tf ue2_65 ue2_7 (.vf 156)))))),
  (987079694, 194, (.af 20 0 (.cf (.vf 190) (.cf (.vf 191) (.cf (.vf 192) (.cf (.vf 193) .n0)))))),
  (988079697, 195, (.af 20 1 (.cf (.vf 190) (.cf (.vf 191) (.cf (.vf 192) (.cf (.vf 193) .n0)))))),
  (265700900, 196, (.af 21 0 (.cf (.vf 190) (.cf (.vf 191) (.cf (.vf 192) (.cf (.vf 193) .n0)))))),
  (266700903, 197, (.af 21 1 (.cf (.vf 190) (.cf (.vf 191) (.cf (.vf 192) (.cf (.vf 193) .n0)))))),
  (3839289397, 198, (.af 22 0 (.cf (.vf 190) (.cf (.vf 191) (.cf (.vf 192) (.cf (.vf 193) .n0)))))),
  (3840289400, 199, (.af 22 1 (.cf (.vf 190) (.cf (.vf 191) (.cf (.vf 192) (.cf (.vf 193) .n0)))))),
  (578321374, 200, (.tf ue2_67 (.vf 197) (.vf 199))),
  (577321370, 201, (.tf ue2_67 (.vf 196) (.vf 198))),
  (2019078957, 202, (.tf ue2_68 (.vf 195) (.vf 200))),
  (2018078955, 203, (.tf ue2_68 (.vf 194) (.vf 201))),
  (3117910603, 204, (.af 23 0 (.cf (.vf 190) (.cf (.vf 191) (.cf (.vf 192) (.cf (.vf 193) .n0)))))),
  (3118910606, 205, (.af 23 1 (.cf (.vf 190) (.cf (.vf 191) (.cf (.vf 192) (.cf (.vf 193) .n0)))))),
  (1076432423, 206, (.tf ue2_69 (.vf 205) (.vf 202))),
  (1075432421, 207, (.tf ue2_69 (.vf 204) (.vf 203))),
  (629076953, 208, (.tf ue2_55 ue2_70 (.tf (.vb 2) (.vf 206) (.vf 202)))),
  (630076957, 209, (.tf ue2_55 ue2_70 (.tf (.vb 2) (.vf 207) (.vf 203)))),
  (1046455022, 210, (.tf ue2_72 ue2_7 (.tf ue2_73 (.vf 157) (.vf 209)))),
  (1045455018, 211, (.tf ue2_72 ue2_7 (.tf ue2_73 (.vf 156) (.vf 208)))),
  (3049459771, 212, (.tf ue2_75 ue2_7 (.tf ue2_76 (.vf 157) (.vf 209)))),
  (3048459767, 213, (.tf ue2_75 ue2_7 (.tf ue2_76 (.vf 156) (.vf 208)))),
  (757497229, 214, (.tf ue2_78 ue2_7 (.tf ue2_79 (.vf 157) (.vf 209)))),
  (756497225, 215, (.tf ue2_78 ue2_7 (.tf ue2_79 (.vf 156) (.vf 208)))),
  (1907583415, 216, (.tf ue2_82 ue2_29 (.tf ue2_83 ue2_4 (.tf ue2_84 ue2_6 (.tf ue2_85 ue2_7 (.tf ue2_86 (.vf 131) (.vf 183))))))),
  (2989679238, 217, (.tf ue2_82 ue2_34 (.tf ue2_83 ue2_10 (.tf ue2_84 ue2_13 (.tf ue2_85 ue2_7 (.tf ue2_86 (.vf 130) (.vf 182))))))),
  (3922131661, 218, (.tf ue2_88 ue2_29 (.tf ue2_89 ue2_4 (.tf ue2_90 ue2_6 (.tf ue2_91 ue2_7 (.tf ue2_92 (.vf 131) (.vf 183))))))),
  (709260193, 219, (.tf ue2_88 ue2_34 (.tf ue2_89 ue2_10 (.tf ue2_90 ue2_13 (.tf ue2_91 ue2_7 (.tf ue2_92 (.vf 130) (.vf 182))))))),
  (1091080006, 220, (.af 20 0 (.cf (.vf 216) (.cf (.vf 217) (.cf (.vf 218) (.cf (.vf 219) .n0)))))),
  (1092080009, 221, (.af 20 1 (.cf (.vf 216) (.cf (.vf 217) (.cf (.vf 218) (.cf (.vf 219) .n0)))))),
  (369701212, 222, (.af 21 0 (.cf (.vf 216) (.cf (.vf 217) (.cf (.vf 218) (.cf (.vf 219) .n0)))))),
  (370701215, 223, (.af 21 1 (.cf (.vf 216) (.cf (.vf 217) (.cf (.vf 218) (.cf (.vf 219) .n0)))))),
  (3943289709, 224, (.af 22 0 (.cf (.vf 216) (.cf (.vf 217) (.cf (.vf 218) (.cf (.vf 219) .n0)))))),
  (3944289712, 225, (.af 22 1 (.cf (.vf 216) (.cf (.vf 217) (.cf (.vf 218) (.cf (.vf 219) .n0)))))),
  (1254162539, 226, (.tf ue2_94 (.vf 223) (.vf 225))),
  (1253162535, 227, (.tf ue2_94 (.vf 222) (.vf 224))),
  (2694920122, 228, (.tf ue2_95 (.vf 221) (.vf 226))),
  (2693920120, 229, (.tf ue2_95 (.vf 220) (.vf 227))),
  (3221910915, 230, (.af 23 0 (.cf (.vf 216) (.cf (.vf 217) (.cf (.vf 218) (.cf (.vf 219) .n0)))))),
  (3222910918, 231, (.af 23 1 (.cf (.vf 216) (.cf (.vf 217) (.cf (.vf 218) (.cf (.vf 219) .n0)))))),
  (1752273588, 232, (.tf ue2_96 (.vf 231) (.vf 228))),
  (1751273586, 233, (.tf ue2_96 (.vf 230) (.vf 229))),
  (4258715177, 234, (.tf ue2_80 ue2_97 (.tf (.vb 2) (.vf 232) (.vf 228)))),
  (4259715181, 235, (.tf ue2_80 ue2_97 (.tf (.vb 2) (.vf 233) (.vf 229)))),
  (751753256, 236, (.tf ue2_99 (.vf 131) (.tf ue2_100 (.vf 183) (.vf 235)))),
  (749753249, 237, (.tf ue2_99 (.vf 130) (.tf ue2_100 (.vf 182) (.vf 234)))),
  (2754758005, 238, (.tf ue2_102 (.vf 131) (.tf ue2_103 (.vf 183) (.vf 235)))),
  (2752757998, 239, (.tf ue2_102 (.vf 130) (.tf ue2_103 (.vf 182) (.vf 234)))),
  (462795463, 240, (.tf ue2_105 (.vf 131) (.tf ue2_106 (.vf 183) (.vf 235)))),
  (460795456, 241, (.tf ue2_105 (.vf 130) (.tf ue2_106 (.vf 182) (.vf 234)))),
  (2101796128, 242, (.tf ue2_82 ue2_53 (.tf ue2_83 ue2_22 (.tf ue2_84 ue2_23 (.tf ue2_85 ue2_7 (.tf ue2_86 (.vf 157) (.vf 209))))))),
  (1778009428, 243, (.tf ue2_82 ue2_54 (.tf ue2_83 ue2_24 (.tf ue2_84 ue2_25 (.tf ue2_85 ue2_7 (.tf ue2_86 (.vf 156) (.vf 208))))))),
  (4116344374, 244, (.tf ue2_88 ue2_53 (.tf ue2_89 ue2_22 (.tf ue2_90 ue2_23 (.tf ue2_91 ue2_7 (.tf ue2_92 (.vf 157) (.vf 209))))))),
  (3792557674, 245, (.tf ue2_88 ue2_54 (.tf ue2_89 ue2_24 (.tf ue2_90 ue2_25 (.tf ue2_91 ue2_7 (.tf ue2_92 (.vf 156) (.vf 208))))))),
  (1195080318, 246, (.af 20 0 (.cf (.vf 242) (.cf (.vf 243) (.cf (.vf 244) (.cf (.vf 245) .n0)))))),
  (1196080321, 247, (.af 20 1 (.cf (.vf 242) (.cf (.vf 243) (.cf (.vf 244) (.cf (.vf 245) .n0)))))),
  (473701524, 248, (.af 21 0 (.cf (.vf 242) (.cf (.vf 243) (.cf (.vf 244) (.cf (.vf 245) .n0)))))),
  (474701527, 249, (.af 21 1 (.cf (.vf 242) (.cf (.vf 243) (.cf (.vf 244) (.cf (.vf 245) .n0)))))),
  (4047290021, 250, (.af 22 0 (.cf (.vf 242) (.cf (.vf 243) (.cf (.vf 244) (.cf (.vf 245) .n0)))))),
  (4048290024, 251, (.af 22 1 (.cf (.vf 242) (.cf (.vf 243) (.cf (.vf 244) (.cf (.vf 245) .n0)))))),
  (1280162643, 252, (.tf ue2_94 (.vf 249) (.vf 251))),
  (1279162639, 253, (.tf ue2_94 (.vf 248) (.vf 250))),
  (2720920226, 254, (.tf ue2_95 (.vf 247) (.vf 252))),
  (2719920224, 255, (.tf ue2_95 (.vf 246) (.vf 253))),
  (3325911227, 256, (.af 23 0 (.cf (.vf 242) (.cf (.vf 243) (.cf (.vf 244) (.cf (.vf 245) .n0)))))),
  (3326911230, 257, (.af 23 1 (.cf (.vf 242) (.cf (.vf 243) (.cf (.vf 244) (.cf (.vf 245) .n0)))))),
  (1778273692, 258, (.tf ue2_96 (.vf 257) (.vf 254))),
  (1777273690, 259, (.tf ue2_96 (.vf 256) (.vf 255))),
  (4284715281, 260, (.tf ue2_80 ue2_97 (.tf (.vb 2) (.vf 258) (.vf 254)))),
  (4285715285, 261, (.tf ue2_80 ue2_97 (.tf (.vb 2) (.vf 259) (.vf 255)))),
  (803753438, 262, (.tf ue2_99 (.vf 157) (.tf ue2_100 (.vf 209) (.vf 261)))),
  (801753431, 263, (.tf ue2_99 (.vf 156) (.tf ue2_100 (.vf 208) (.vf 260)))),
  (2806758187, 264, (.tf ue2_102 (.vf 157) (.tf ue2_103 (.vf 209) (.vf 261)))),
  (2804758180, 265, (.tf ue2_102 (.vf 156) (.tf ue2_103 (.vf 208) (.vf 260)))),
  (514795645, 266, (.tf ue2_105 (.vf 157) (.tf ue2_106 (.vf 209) (.vf 261)))),
  (512795638, 267, (.tf ue2_105 (.vf 156) (.tf ue2_106 (.vf 208) (.vf 260)))),
  (2133506618, 268, (.tf ue2_109 ue2_29 (.tf ue2_110 ue2_4 (.tf ue2_111 ue2_6 (.tf ue2_112 ue2_7 (.tf ue2_113 (.vf 131) (.tf ue2_114 (.vf 183) (.vf 235)))))))),
  (3214602438, 269, (.tf ue2_109 ue2_34 (.tf ue2_110 ue2_10 (.tf ue2_111 ue2_13 (.tf ue2_112 ue2_7 (.tf ue2_113 (.vf 130) (.tf ue2_114 (.vf 182) (.vf 234)))))))),
  (3691971055, 270, (.tf ue2_116 ue2_29 (.tf ue2_117 ue2_4 (.tf ue2_118 ue2_6 (.tf ue2_119 ue2_7 (.tf ue2_120 (.vf 131) (.tf ue2_121 (.vf 183) (.vf 235)))))))),
  (478099584, 271, (.tf ue2_116 ue2_34 (.tf ue2_117 ue2_10 (.tf ue2_118 ue2_13 (.tf ue2_119 ue2_7 (.tf ue2_120 (.vf 130) (.tf ue2_121 (.vf 182) (.vf 234)))))))),
  (1299080630, 272, (.af 20 0 (.cf (.vf 268) (.cf (.vf 269) (.cf (.vf 270) (.cf (.vf 271) .n0)))))),
  (1300080633, 273, (.af 20 1 (.cf (.vf 268) (.cf (.vf 269) (.cf (.vf 270) (.cf (.vf 271) .n0)))))),
  (577701836, 274, (.af 21 0 (.cf (.vf 268) (.cf (.vf 269) (.cf (.vf 270) (.cf (.vf 271) .n0)))))),
  (578701839, 275, (.af 21 1 (.cf (.vf 268) (.cf (.vf 269) (.cf (.vf 270) (.cf (.vf 271) .n0)))))),
  (4151290333, 276, (.af 22 0 (.cf (.vf 268) (.cf (.vf 269) (.cf (.vf 270) (.cf (.vf 271) .n0)))))),
  (4152290336, 277, (.af 22 1 (.cf (.vf 268) (.cf (.vf 269) (.cf (.vf 270) (.cf (.vf 271) .n0)))))),
  (1956003808, 278, (.tf ue2_123 (.vf 275) (.vf 277))),
  (1955003804, 279, (.tf ue2_123 (.vf 274) (.vf 276))),
  (3396761391, 280, (.tf ue2_124 (.vf 273) (.vf 278))),
  (3395761389, 281, (.tf ue2_124 (.vf 272) (.vf 279))),
  (3429911539, 282, (.af 23 0 (.cf (.vf 268) (.cf (.vf 269) (.cf (.vf 270) (.cf (.vf 271) .n0)))))),
  (3430911542, 283, (.af 23 1 (.cf (.vf 268) (.cf (.vf 269) (.cf (.vf 270) (.cf (.vf 271) .n0)))))),
  (2454114857, 284, (.tf ue2_125 (.vf 283) (.vf 280))),
  (2453114855, 285, (.tf ue2_125 (.vf 282) (.vf 281))),
  (3619386214, 286, (.tf ue2_107 ue2_126 (.tf (.vb 2) (.vf 284) (.vf 280)))),
  (3620386218, 287, (.tf ue2_107 ue2_126 (.tf (.vb 2) (.vf 285) (.vf 281)))),
  (1261063699, 288, (.tf ue2_128 (.vf 183) (.tf ue2_129 (.vf 235) (.vf 287)))),
  (1259063692, 289, (.tf ue2_128 (.vf 182) (.tf ue2_129 (.vf 234) (.vf 286)))),
  (3264068448, 290, (.tf ue2_131 (.vf 183) (.tf ue2_132 (.vf 235) (.vf 287)))),
  (3262068441, 291, (.tf ue2_131 (.vf 182) (.tf ue2_132 (.vf 234) (.vf 286)))),
  (972105906, 292, (.tf ue2_134 (.vf 183) (.tf ue2_135 (.vf 235) (.vf 287)))),
  (970105899, 293, (.tf ue2_134 (.vf 182) (.tf ue2_135 (.vf 234) (.vf 286)))),
  (2353719409, 294, (.tf ue2_109 ue2_53 (.tf ue2_110 ue2_22 (.tf ue2_111 ue2_23 (.tf ue2_112 ue2_7 (.tf ue2_113 (.vf 157) (.tf ue2_114 (.vf 209) (.vf 261)))))))),
  (2028932706, 295, (.tf ue2_109 ue2_54 (.tf ue2_110 ue2_24 (.tf ue2_111 ue2_25 (.tf ue2_112 ue2_7 (.tf ue2_113 (.vf 156) (.tf ue2_114 (.vf 208) (.vf 260)))))))),
  (3912183846, 296, (.tf ue2_116 ue2_53 (.tf ue2_117 ue2_22 (.tf ue2_118 ue2_23 (.tf ue2_119 ue2_7 (.tf ue2_120 (.vf 157) (.tf ue2_121 (.vf 209) (.vf 261)))))))),
  (3587397143, 297, (.tf ue2_116 ue2_54 (.tf ue2_117 ue2_24 (.tf ue2_118 ue2_25 (.tf ue2_119 ue2_7 (.tf ue2_120 (.vf 156) (.tf ue2_121 (.vf 208) (.vf 260)))))))),
  (1403080942, 298, (.af 20 0 (.cf (.vf 294) (.cf (.vf 295) (.cf (.vf 296) (.cf (.vf 297) .n0)))))),
  (1404080945, 299, (.af 20 1 (.cf (.vf 294) (.cf (.vf 295) (.cf (.vf 296) (.cf (.vf 297) .n0)))))),
  (681702148, 300, (.af 21 0 (.cf (.vf 294) (.cf (.vf 295) (.cf (.vf 296) (.cf (.vf 297) .n0)))))),
  (682702151, 301, (.af 21 1 (.cf (.vf 294) (.cf (.vf 295) (.cf (.vf 296) (.cf (.vf 297) .n0)))))),
  (4255290645, 302, (.af 22 0 (.cf (.vf 294) (.cf (.vf 295) (.cf (.vf 296) (.cf (.vf 297) .n0)))))),
  (4256290648, 303, (.af 22 1 (.cf (.vf 294) (.cf (.vf 295) (.cf (.vf 296) (.cf (.vf 297) .n0)))))),
  (1982003912, 304, (.tf ue2_123 (.vf 301) (.vf 303))),
  (1981003908, 305, (.tf ue2_123 (.vf 300) (.vf 302))),
  (3422761495, 306, (.tf ue2_124 (.vf 299) (.vf 304))),
  (3421761493, 307, (.tf ue2_124 (.vf 298) (.vf 305))),
  (3533911851, 308, (.af 23 0 (.cf (.vf 294) (.cf (.vf 295) (.cf (.vf 296) (.cf (.vf 297) .n0)))))),
  (3534911854, 309, (.af 23 1 (.cf (.vf 294) (.cf (.vf 295) (.cf (.vf 296) (.cf (.vf 297) .n0)))))),
  (2480114961, 310, (.tf ue2_125 (.vf 309) (.vf 306))),
  (2479114959, 311, (.tf ue2_125 (.vf 308) (.vf 307))),
  (3645386318, 312, (.tf ue2_107 ue2_126 (.tf (.vb 2) (.vf 310) (.vf 306)))),
  (3646386322, 313, (.tf ue2_107 ue2_126 (.tf (.vb 2) (.vf 311) (.vf 307)))),
  (1313063881, 314, (.tf ue2_128 (.vf 209) (.tf ue2_129 (.vf 261) (.vf 313)))),
  (1311063874, 315, (.tf ue2_128 (.vf 208) (.tf ue2_129 (.vf 260) (.vf 312)))),
  (3316068630, 316, (.tf ue2_131 (.vf 209) (.tf ue2_132 (.vf 261) (.vf 313)))),
  (3314068623, 317, (.tf ue2_131 (.vf 208) (.tf ue2_132 (.vf 260) (.vf 312)))),
  (1024106088, 318, (.tf ue2_134 (.vf 209) (.tf ue2_135 (.vf 261) (.vf 313)))),
  (1022106081, 319, (.tf ue2_134 (.vf 208) (.tf ue2_135 (.vf 260) (.vf 312)))),
  (4254543266, 320, (.tf ue2_138 ue2_29 (.tf ue2_139 ue2_4 (.tf ue2_140 ue2_6 (.tf ue2_141 ue2_7 (.tf ue2_142 (.vf 131) (.tf ue2_143 (.vf 183) (.tf ue2_144 (.vf 235) (.vf 287))))))))),
  (1039671792, 321, (.tf ue2_138 ue2_34 (.tf ue2_139 ue2_10 (.tf ue2_140 ue2_13 (.tf ue2_141 ue2_7 (.tf ue2_142 (.vf 130) (.tf ue2_143 (.vf 182) (.tf ue2_144 (.vf 234) (.vf 286))))))))),
  (1061956603, 322, (.tf ue2_146 ue2_29 (.tf ue2_147 ue2_4 (.tf ue2_148 ue2_6 (.tf ue2_149 ue2_7 (.tf ue2_150 (.vf 131) (.tf ue2_151 (.vf 183) (.tf ue2_152 (.vf 235) (.vf 287))))))))),
  (2142052420, 323, (.tf ue2_146 ue2_34 (.tf ue2_147 ue2_10 (.tf ue2_148 ue2_13 (.tf ue2_149 ue2_7 (.tf ue2_150 (.vf 130) (.tf ue2_151 (.vf 182) (.tf ue2_152 (.vf 234) (.vf 286))))))))),
  (1507081254, 324, (.af 20 0 (.cf (.vf 320) (.cf (.vf 321) (.cf (.vf 322) (.cf (.vf 323) .n0)))))),
  (1508081257, 325, (.af 20 1 (.cf (.vf 320) (.cf (.vf 321) (.cf (.vf 322) (.cf (.vf 323) .n0)))))),
  (785702460, 326, (.af 21 0 (.cf (.vf 320) (.cf (.vf 321) (.cf (.vf 322) (.cf (.vf 323) .n0)))))),
  (786702463, 327, (.af 21 1 (.cf (.vf 320) (.cf (.vf 321) (.cf (.vf 322) (.cf (.vf 323) .n0)))))),
  (64323666, 328, (.af 22 0 (.cf (.vf 320) (.cf (.vf 321) (.cf (.vf 322) (.cf (.vf 323) .n0)))))),
  (65323669, 329, (.af 22 1 (.cf (.vf 320) (.cf (.vf 321) (.cf (.vf 322) (.cf (.vf 323) .n0)))))),
  (2657845077, 330, (.tf ue2_154 (.vf 327) (.vf 329))),
  (2656845073, 331, (.tf ue2_154 (.vf 326) (.vf 328))),
  (4098602660, 332, (.tf ue2_155 (.vf 325) (.vf 330))),
  (4097602658, 333, (.tf ue2_155 (.vf 324) (.vf 331))),
  (3637912163, 334, (.af 23 0 (.cf (.vf 320) (.cf (.vf 321) (.cf (.vf 322) (.cf (.vf 323) .n0)))))),
  (3638912166, 335, (.af 23 1 (.cf (.vf 320) (.cf (.vf 321) (.cf (.vf 322) (.cf (.vf 323) .n0)))))),
  (3155956126, 336, (.tf ue2_156 (.vf 335) (.vf 332))),
  (3154956124, 337, (.tf ue2_156 (.vf 334) (.vf 333))),
  (2980057251, 338, (.tf ue2_136 ue2_157 (.tf (.vb 2) (.vf 336) (.vf 332)))),
  (2981057255, 339, (.tf ue2_136 ue2_157 (.tf (.vb 2) (.vf 337) (.vf 333)))),
  (1770374142, 340, (.tf ue2_159 (.vf 235) (.tf ue2_160 (.vf 287) (.vf 339)))),
  (1768374135, 341, (.tf ue2_159 (.vf 234) (.tf ue2_160 (.vf 286) (.vf 338)))),
  (3773378891, 342, (.tf ue2_162 (.vf 235) (.tf ue2_163 (.vf 287) (.vf 339)))),
  (3771378884, 343, (.tf ue2_162 (.vf 234) (.tf ue2_163 (.vf 286) (.vf 338)))),
  (1481416349, 344, (.tf ue2_165 (.vf 235) (.tf ue2_166 (.vf 287) (.vf 339)))),
  (1479416342, 345, (.tf ue2_165 (.vf 234) (.tf ue2_166 (.vf 286) (.vf 338)))),
  (205788844, 346, (.tf ue2_138 ue2_53 (.tf ue2_139 ue2_22 (.tf ue2_140 ue2_23 (.tf ue2_141 ue2_7 (.tf ue2_142 (.vf 157) (.tf ue2_143 (.vf 209) (.tf ue2_144 (.vf 261) (.vf 313))))))))),
  (4174969429, 347, (.tf ue2_138 ue2_54 (.tf ue2_139 ue2_24 (.tf ue2_140 ue2_25 (.tf ue2_141 ue2_7 (.tf ue2_142 (.vf 156) (.tf ue2_143 (.vf 208) (.tf ue2_144 (.vf 260) (.vf 312))))))))),
  (1308169472, 348, (.tf ue2_146 ue2_53 (.tf ue2_147 ue2_22 (.tf ue2_148 ue2_23 (.tf ue2_149 ue2_7 (.tf ue2_150 (.vf 157) (.tf ue2_151 (.vf 209) (.tf ue2_152 (.vf 261) (.vf 313))))))))),
  (982382766, 349, (.tf ue2_146 ue2_54 (.tf ue2_147 ue2_24 (.tf ue2_148 ue2_25 (.tf ue2_149 ue2_7 (.tf ue2_150 (.vf 156) (.tf ue2_151 (.vf 208) (.tf ue2_152 (.vf 260) (.vf 312))))))))),
  (1611081566, 350, (.af 20 0 (.cf (.vf 346) (.cf (.vf 347) (.cf (.vf 348) (.cf (.vf 349) .n0)))))),
  (1612081569, 351, (.af 20 1 (.cf (.vf 346) (.cf (.vf 347) (.cf (.vf 348) (.cf (.vf 349) .n0)))))),
  (889702772, 352, (.af 21 0 (.cf (.vf 346) (.cf (.vf 347) (.cf (.vf 348) (.cf (.vf 349) .n0)))))),
  (890702775, 353, (.af 21 1 (.cf (.vf 346) (.cf (.vf 347) (.cf (.vf 348) (.cf (.vf 349) .n0)))))),
  (168323978, 354, (.af 22 0 (.cf (.vf 346) (.cf (.vf 347) (.cf (.vf 348) (.cf (.vf 349) .n0)))))),
  (169323981, 355, (.af 22 1 (.cf (.vf 346) (.cf (.vf 347) (.cf (.vf 348) (.cf (.vf 349) .n0)))))),
  (2683845181, 356, (.tf ue2_154 (.vf 353) (.vf 355))),
  (2682845177, 357, (.tf ue2_154 (.vf 352) (.vf 354))),
  (4124602764, 358, (.tf ue2_155 (.vf 351) (.vf 356))),
  (4123602762, 359, (.tf ue2_155 (.vf 350) (.vf 357))),
  (3741912475, 360, (.af 23 0 (.cf (.vf 346) (.cf (.vf 347) (.cf (.vf 348) (.cf (.vf 349) .n0)))))),
  (3742912478, 361, (.af 23 1 (.cf (.vf 346) (.cf (.vf 347) (.cf (.vf 348) (.cf (.vf 349) .n0)))))),
  (3181956230, 362, (.tf ue2_156 (.vf 361) (.vf 358))),
  (3180956228, 363, (.tf ue2_156 (.vf 360) (.vf 359))),
  (3006057355, 364, (.tf ue2_136 ue2_157 (.tf (.vb 2) (.vf 362) (.vf 358)))),
  (3007057359, 365, (.tf ue2_136 ue2_157 (.tf (.vb 2) (.vf 363) (.vf 359)))),
  (1822374324, 366, (.tf ue2_159 (.vf 261) (.tf ue2_160 (.vf 313) (.vf 365)))),
  (1820374317, 367, (.tf ue2_159 (.vf 260) (.tf ue2_160 (.vf 312) (.vf 364)))),
  (3825379073, 368, (.tf ue2_162 (.vf 261) (.tf ue2_163 (.vf 313) (.vf 365)))),
  (3823379066, 369, (.tf ue2_162 (.vf 260) (.tf ue2_163 (.vf 312) (.vf 364)))),
  (1533416531, 370, (.tf ue2_165 (.vf 261) (.tf ue2_166 (.vf 313) (.vf 365)))),
  (1531416524, 371, (.tf ue2_165 (.vf 260) (.tf ue2_166 (.vf 312) (.vf 364)))),
  (3975726068, 372, (.tf ue2_169 ue2_29 (.tf ue2_170 ue2_4 (.tf ue2_171 ue2_6 (.tf ue2_172 ue2_7 (.tf ue2_173 (.vf 131) (.tf ue2_174 (.vf 183) (.tf ue2_175 (.vf 235) (.tf ue2_176 (.vf 287) (.vf 339)))))))))),
  (759854591, 373, (.tf ue2_169 ue2_34 (.tf ue2_170 ue2_10 (.tf ue2_171 ue2_13 (.tf ue2_172 ue2_7 (.tf ue2_173 (.vf 130) (.tf ue2_174 (.vf 182) (.tf ue2_175 (.vf 234) (.tf ue2_176 (.vf 286) (.vf 338)))))))))),
  (327055596, 374, (.tf ue2_178 ue2_29 (.tf ue2_179 ue2_4 (.tf ue2_180 ue2_6 (.tf ue2_181 ue2_7 (.tf ue2_182 (.vf 131) (.tf ue2_183 (.vf 183) (.tf ue2_184 (.vf 235) (.tf ue2_185 (.vf 287) (.vf 339)))))))))),
  (1406151410, 375, (.tf ue2_178 ue2_34 (.tf ue2_179 ue2_10 (.tf ue2_180 ue2_13 (.tf ue2_181 ue2_7 (.tf ue2_182 (.vf 130) (.tf ue2_183 (.vf 182) (.tf ue2_184 (.vf 234) (.tf ue2_185 (.vf 286) (.vf 338)))))))))),
  (1715081878, 376, (.af 20 0 (.cf (.vf 372) (.cf (.vf 373) (.cf (.vf 374) (.cf (.vf 375) .n0)))))),
  (1716081881, 377, (.af 20 1 (.cf (.vf 372) (.cf (.vf 373) (.cf (.vf 374) (.cf (.vf 375) .n0)))))),
  (993703084, 378, (.af 21 0 (.cf (.vf 372) (.cf (.vf 373) (.cf (.vf 374) (.cf (.vf 375) .n0)))))),
  (994703087, 379, (.af 21 1 (.cf (.vf 372) (.cf (.vf 373) (.cf (.vf 374) (.cf (.vf 375) .n0)))))),
  (272324290, 380, (.af 22 0 (.cf (.vf 372) (.cf (.vf 373) (.cf (.vf 374) (.cf (.vf 375) .n0)))))),
  (273324293, 381, (.af 22 1 (.cf (.vf 372) (.cf (.vf 373) (.cf (.vf 374) (.cf (.vf 375) .n0)))))),
  (3359686346, 382, (.tf ue2_187 (.vf 379) (.vf 381))),
  (3358686342, 383, (.tf ue2_187 (.vf 378) (.vf 380))),
  (505476638, 384, (.tf ue2_188 (.vf 377) (.vf 382))),
  (504476636, 385, (.tf ue2_188 (.vf 376) (.vf 383))),
  (3845912787, 386, (.af 23 0 (.cf (.vf 372) (.cf (.vf 373) (.cf (.vf 374) (.cf (.vf 375) .n0)))))),
  (3846912790, 387, (.af 23 1 (.cf (.vf 372) (.cf (.vf 373) (.cf (.vf 374) (.cf (.vf 375) .n0)))))),
  (3857797395, 388, (.tf ue2_189 (.vf 387) (.vf 384))),
  (3856797393, 389, (.tf ue2_189 (.vf 386) (.vf 385))),
  (2340728288, 390, (.tf ue2_167 ue2_190 (.tf (.vb 2) (.vf 388) (.vf 384)))),
  (2341728292, 391, (.tf ue2_167 ue2_190 (.tf (.vb 2) (.vf 389) (.vf 385)))),
  (2279684585, 392, (.tf ue2_192 (.vf 287) (.tf ue2_193 (.vf 339) (.vf 391)))),
  (2277684578, 393, (.tf ue2_192 (.vf 286) (.tf ue2_193 (.vf 338) (.vf 390)))),
  (4282689334, 394, (.tf ue2_195 (.vf 287) (.tf ue2_196 (.vf 339) (.vf 391)))),
  (4280689327, 395, (.tf ue2_195 (.vf 286) (.tf ue2_196 (.vf 338) (.vf 390)))),
  (1990726792, 396, (.tf ue2_198 (.vf 287) (.tf ue2_199 (.vf 339) (.vf 391)))),
  (1988726785, 397, (.tf ue2_198 (.vf 286) (.tf ue2_199 (.vf 338) (.vf 390)))),
  (4247939015, 398, (.tf ue2_169 ue2_53 (.tf ue2_170 ue2_22 (.tf ue2_171 ue2_23 (.tf ue2_172 ue2_7 (.tf ue2_173 (.vf 157) (.tf ue2_174 (.vf 209) (.tf ue2_175 (.vf 261) (.tf ue2_176 (.vf 313) (.vf 365)))))))))),
  (3921152306, 399, (.tf ue2_169 ue2_54 (.tf ue2_170 ue2_24 (.tf ue2_171 ue2_25 (.tf ue2_172 ue2_7 (.tf ue2_173 (.vf 156) (.tf ue2_174 (.vf 208) (.tf ue2_175 (.vf 260) (.tf ue2_176 (.vf 312) (.vf 364)))))))))),
  (599268543, 400, (.tf ue2_178 ue2_53 (.tf ue2_179 ue2_22 (.tf ue2_180 ue2_23 (.tf ue2_181 ue2_7 (.tf ue2_182 (.vf 157) (.tf ue2_183 (.vf 209) (.tf ue2_184 (.vf 261) (.tf ue2_185 (.vf 313) (.vf 365)))))))))),
  (272481834, 401, (.tf ue2_178 ue2_54 (.tf ue2_179 ue2_24 (.tf ue2_180 ue2_25 (.tf ue2_181 ue2_7 (.tf ue2_182 (.vf 156) (.tf ue2_183 (.vf 208) (.tf ue2_184 (.vf 260) (.tf ue2_185 (.vf 312) (.vf 364)))))))))),
  (1819082190, 402, (.af 20 0 (.cf (.vf 398) (.cf (.vf 399) (.cf (.vf 400) (.cf (.vf 401) .n0)))))),
  (1820082193, 403, (.af 20 1 (.cf (.vf 398) (.cf (.vf 399) (.cf (.vf 400) (.cf (.vf 401) .n0)))))),
  (1097703396, 404, (.af 21 0 (.cf (.vf 398) (.cf (.vf 399) (.cf (.vf 400) (.cf (.vf 401) .n0)))))),
  (1098703399, 405, (.af 21 1 (.cf (.vf 398) (.cf (.vf 399) (.cf (.vf 400) (.cf (.vf 401) .n0)))))),
  (376324602, 406, (.af 22 0 (.cf (.vf 398) (.cf (.vf 399) (.cf (.vf 400) (.cf (.vf 401) .n0)))))),
  (377324605, 407, (.af 22 1 (.cf (.vf 398) (.cf (.vf 399) (.cf (.vf 400) (.cf (.vf 401) .n0)))))),
  (3385686450, 408, (.tf ue2_187 (.vf 405) (.vf 407))),
  (3384686446, 409, (.tf ue2_187 (.vf 404) (.vf 406))),
  (531476742, 410, (.tf ue2_188 (.vf 403) (.vf 408))),
  (530476740, 411, (.tf ue2_188 (.vf 402) (.vf 409))),
  (3949913099, 412, (.af 23 0 (.cf (.vf 398) (.cf (.vf 399) (.cf (.vf 400) (.cf (.vf 401) .n0)))))),
  (3950913102, 413, (.af 23 1 (.cf (.vf 398) (.cf (.vf 399) (.cf (.vf 400) (.cf (.vf 401) .n0)))))),
  (3883797499, 414, (.tf ue2_189 (.vf 413) (.vf 410))),
  (3882797497, 415, (.tf ue2_189 (.vf 412) (.vf 411))),
  (2366728392, 416, (.tf ue2_167 ue2_190 (.tf (.vb 2) (.vf 414) (.vf 410)))),
  (2367728396, 417, (.tf ue2_167 ue2_190 (.tf (.vb 2) (.vf 415) (.vf 411)))),
  (2331684767, 418, (.tf ue2_192 (.vf 313) (.tf ue2_193 (.vf 365) (.vf 417)))),
  (2329684760, 419, (.tf ue2_192 (.vf 312) (.tf ue2_193 (.vf 364) (.vf 416)))),
  (39722225, 420, (.tf ue2_195 (.vf 313) (.tf ue2_196 (.vf 365) (.vf 417)))),
  (37722218, 421, (.tf ue2_195 (.vf 312) (.tf ue2_196 (.vf 364) (.vf 416)))),
  (2042726974, 422, (.tf ue2_198 (.vf 313) (.tf ue2_199 (.vf 365) (.vf 417)))),
  (2040726967, 423, (.tf ue2_198 (.vf 312) (.tf ue2_199 (.vf 364) (.vf 416)))),
  (1297055024, 424, (.tf ue2_202 ue2_29 (.tf ue2_203 ue2_4 (.tf ue2_204 ue2_6 (.tf ue2_205 ue2_7 (.tf ue2_206 (.vf 131) (.tf ue2_207 (.vf 183) (.tf ue2_208 (.vf 235) (.tf ue2_209 (.vf 287) (.tf ue2_210 (.vf 339) (.vf 391))))))))))),
  (2375150835, 425, (.tf ue2_202 ue2_34 (.tf ue2_203 ue2_10 (.tf ue2_204 ue2_13 (.tf ue2_205 ue2_7 (.tf ue2_206 (.vf 130) (.tf ue2_207 (.vf 182) (.tf ue2_208 (.vf 234) (.tf ue2_209 (.vf 286) (.tf ue2_210 (.vf 338) (.vf 390))))))))))),
  (1487268034, 426, (.tf ue2_212 ue2_29 (.tf ue2_213 ue2_4 (.tf ue2_214 ue2_6 (.tf ue2_215 ue2_7 (.tf ue2_216 (.vf 131) (.tf ue2_217 (.vf 183) (.tf ue2_218 (.vf 235) (.tf ue2_219 (.vf 287) (.tf ue2_220 (.vf 339) (.vf 391))))))))))),
  (2565363845, 427, (.tf ue2_212 ue2_34 (.tf ue2_213 ue2_10 (.tf ue2_214 ue2_13 (.tf ue2_215 ue2_7 (.tf ue2_216 (.vf 130) (.tf ue2_217 (.vf 182) (.tf ue2_218 (.vf 234) (.tf ue2_219 (.vf 286) (.tf ue2_220 (.vf 338) (.vf 390))))))))))),
  (1923082502, 428, (.af 20 0 (.cf (.vf 424) (.cf (.vf 425) (.cf (.vf 426) (.cf (.vf 427) .n0)))))),
  (1924082505, 429, (.af 20 1 (.cf (.vf 424) (.cf (.vf 425) (.cf (.vf 426) (.cf (.vf 427) .n0)))))),
  (1201703708, 430, (.af 21 0 (.cf (.vf 424) (.cf (.vf 425) (.cf (.vf 426) (.cf (.vf 427) .n0)))))),
  (1202703711, 431, (.af 21 1 (.cf (.vf 424) (.cf (.vf 425) (.cf (.vf 426) (.cf (.vf 427) .n0)))))),
  (480324914, 432, (.af 22 0 (.cf (.vf 424) (.cf (.vf 425) (.cf (.vf 426) (.cf (.vf 427) .n0)))))),
  (481324917, 433, (.af 22 1 (.cf (.vf 424) (.cf (.vf 425) (.cf (.vf 426) (.cf (.vf 427) .n0)))))),
  (4061527615, 434, (.tf ue2_222 (.vf 431) (.vf 433))),
  (4060527611, 435, (.tf ue2_222 (.vf 430) (.vf 432))),
  (1207317907, 436, (.tf ue2_223 (.vf 429) (.vf 434))),
  (1206317905, 437, (.tf ue2_223 (.vf 428) (.vf 435))),
  (4053913411, 438, (.af 23 0 (.cf (.vf 424) (.cf (.vf 425) (.cf (.vf 426) (.cf (.vf 427) .n0)))))),
  (4054913414, 439, (.af 23 1 (.cf (.vf 424) (.cf (.vf 425) (.cf (.vf 426) (.cf (.vf 427) .n0)))))),
  (264671373, 440, (.tf ue2_224 (.vf 439) (.vf 436))),
  (263671371, 441, (.tf ue2_224 (.vf 438) (.vf 437))),
  (1701399325, 442, (.tf ue2_200 ue2_225 (.tf (.vb 2) (.vf 440) (.vf 436)))),
  (1702399329, 443, (.tf ue2_200 ue2_225 (.tf (.vb 2) (.vf 441) (.vf 437)))),
  (2788995028, 444, (.tf ue2_227 (.vf 339) (.tf ue2_228 (.vf 391) (.vf 443)))),
  (2786995021, 445, (.tf ue2_227 (.vf 338) (.tf ue2_228 (.vf 390) (.vf 442)))),
  (497032486, 446, (.tf ue2_230 (.vf 339) (.tf ue2_231 (.vf 391) (.vf 443)))),
  (495032479, 447, (.tf ue2_230 (.vf 338) (.tf ue2_231 (.vf 390) (.vf 442)))),
  (2500037235, 448, (.tf ue2_233 (.vf 339) (.tf ue2_234 (.vf 391) (.vf 443)))),
  (2498037228, 449, (.tf ue2_233 (.vf 338) (.tf ue2_234 (.vf 390) (.vf 442)))),
  (1595268049, 450, (.tf ue2_202 ue2_53 (.tf ue2_203 ue2_22 (.tf ue2_204 ue2_23 (.tf ue2_205 ue2_7 (.tf ue2_206 (.vf 157) (.tf ue2_207 (.vf 209) (.tf ue2_208 (.vf 261) (.tf ue2_209 (.vf 313) (.tf ue2_210 (.vf 365) (.vf 417))))))))))),
  (1267481337, 451, (.tf ue2_202 ue2_54 (.tf ue2_203 ue2_24 (.tf ue2_204 ue2_25 (.tf ue2_205 ue2_7 (.tf ue2_206 (.vf 156) (.tf ue2_207 (.vf 208) (.tf ue2_208 (.vf 260) (.tf ue2_209 (.vf 312) (.tf ue2_210 (.vf 364) (.vf 416))))))))))),
  (1785481059, 452, (.tf ue2_212 ue2_53 (.tf ue2_213 ue2_22 (.tf ue2_214 ue2_23 (.tf ue2_215 ue2_7 (.tf ue2_216 (.vf 157) (.tf ue2_217 (.vf 209) (.tf ue2_218 (.vf 261) (.tf ue2_219 (.vf 313) (.tf ue2_220 (.vf 365) (.vf 417))))))))))),
  (1457694347, 453, (.tf ue2_212 ue2_54 (.tf ue2_213 ue2_24 (.tf ue2_214 ue2_25 (.tf ue2_215 ue2_7 (.tf ue2_216 (.vf 156) (.tf ue2_217 (.vf 208) (.tf ue2_218 (.vf 260) (.tf ue2_219 (.vf 312) (.tf ue2_220 (.vf 364) (.vf 416))))))))))),
  (2027082814, 454, (.af 20 0 (.cf (.vf 450) (.cf (.vf 451) (.cf (.vf 452) (.cf (.vf 453) .n0)))))),
  (2028082817, 455, (.af 20 1 (.cf (.vf 450) (.cf (.vf 451) (.cf (.vf 452) (.cf (.vf 453) .n0)))))),
  (1305704020, 456, (.af 21 0 (.cf (.vf 450) (.cf (.vf 451) (.cf (.vf 452) (.cf (.vf 453) .n0)))))),
  (1306704023, 457, (.af 21 1 (.cf (.vf 450) (.cf (.vf 451) (.cf (.vf 452) (.cf (.vf 453) .n0)))))),
  (584325226, 458, (.af 22 0 (.cf (.vf 450) (.cf (.vf 451) (.cf (.vf 452) (.cf (.vf 453) .n0)))))),
  (585325229, 459, (.af 22 1 (.cf (.vf 450) (.cf (.vf 451) (.cf (.vf 452) (.cf (.vf 453) .n0)))))),
  (4087527719, 460, (.tf ue2_222 (.vf 457) (.vf 459))),
  (4086527715, 461, (.tf ue2_222 (.vf 456) (.vf 458))),
  (1233318011, 462, (.tf ue2_223 (.vf 455) (.vf 460))),
  (1232318009, 463, (.tf ue2_223 (.vf 454) (.vf 461))),
  (4157913723, 464, (.af 23 0 (.cf (.vf 450) (.cf (.vf 451) (.cf (.vf 452) (.cf (.vf 453) .n0)))))),
  (4158913726, 465, (.af 23 1 (.cf (.vf 450) (.cf (.vf 451) (.cf (.vf 452) (.cf (.vf 453) .n0)))))),
  (290671477, 466, (.tf ue2_224 (.vf 465) (.vf 462))),
  (289671475, 467, (.tf ue2_224 (.vf 464) (.vf 463))),
  (1727399429, 468, (.tf ue2_200 ue2_225 (.tf (.vb 2) (.vf 466) (.vf 462)))),
  (1728399433, 469, (.tf ue2_200 ue2_225 (.tf (.vb 2) (.vf 467) (.vf 463)))),
  (2840995210, 470, (.tf ue2_227 (.vf 365) (.tf ue2_228 (.vf 417) (.vf 469)))),
  (2838995203, 471, (.tf ue2_227 (.vf 364) (.tf ue2_228 (.vf 416) (.vf 468)))),
  (549032668, 472, (.tf ue2_230 (.vf 365) (.tf ue2_231 (.vf 417) (.vf 469)))),
  (547032661, 473, (.tf ue2_230 (.vf 364) (.tf ue2_231 (.vf 416) (.vf 468)))),
  (2552037417, 474, (.tf ue2_233 (.vf 365) (.tf ue2_234 (.vf 417) (.vf 469)))),
  (2550037410, 475, (.tf ue2_233 (.vf 364) (.tf ue2_234 (.vf 416) (.vf 468)))),
  (513497425, 476, (.tf ue2_237 ue2_29 (.tf ue2_238 ue2_4 (.tf ue2_239 ue2_6 (.tf ue2_240 ue2_7 (.tf ue2_241 (.vf 131) (.tf ue2_242 (.vf 183) (.tf ue2_243 (.vf 235) (.tf ue2_244 (.vf 287) (.tf ue2_245 (.vf 339) (.tf ue2_246 (.vf 391) (.vf 443)))))))))))),
  (1590593233, 477, (.tf ue2_237 ue2_34 (.tf ue2_238 ue2_10 (.tf ue2_239 ue2_13 (.tf ue2_240 ue2_7 (.tf ue2_241 (.vf 130) (.tf ue2_242 (.vf 182) (.tf ue2_243 (.vf 234) (.tf ue2_244 (.vf 286) (.tf ue2_245 (.vf 338) (.tf ue2_246 (.vf 390) (.vf 442)))))))))))),
  (247626626, 478, (.tf ue2_248 ue2_29 (.tf ue2_249 ue2_4 (.tf ue2_250 ue2_6 (.tf ue2_251 ue2_7 (.tf ue2_252 (.vf 131) (.tf ue2_253 (.vf 183) (.tf ue2_254 (.vf 235) (.tf ue2_255 (.vf 287) (.tf ue2_256 (.vf 339) (.tf ue2_257 (.vf 391) (.vf 443)))))))))))),
  (1324722434, 479, (.tf ue2_248 ue2_34 (.tf ue2_249 ue2_10 (.tf ue2_250 ue2_13 (.tf ue2_251 ue2_7 (.tf ue2_252 (.vf 130) (.tf ue2_253 (.vf 182) (.tf ue2_254 (.vf 234) (.tf ue2_255 (.vf 286) (.tf ue2_256 (.vf 338) (.tf ue2_257 (.vf 390) (.vf 442)))))))))))),
  (2131083126, 480, (.af 20 0 (.cf (.vf 476) (.cf (.vf 477) (.cf (.vf 478) (.cf (.vf 479) .n0)))))),
  (2132083129, 481, (.af 20 1 (.cf (.vf 476) (.cf (.vf 477) (.cf (.vf 478) (.cf (.vf 479) .n0)))))),
  (1409704332, 482, (.af 21 0 (.cf (.vf 476) (.cf (.vf 477) (.cf (.vf 478) (.cf (.vf 479) .n0)))))),
  (1410704335, 483, (.af 21 1 (.cf (.vf 476) (.cf (.vf 477) (.cf (.vf 478) (.cf (.vf 479) .n0)))))),
  (688325538, 484, (.af 22 0 (.cf (.vf 476) (.cf (.vf 477) (.cf (.vf 478) (.cf (.vf 479) .n0)))))),
  (689325541, 485, (.af 22 1 (.cf (.vf 476) (.cf (.vf 477) (.cf (.vf 478) (.cf (.vf 479) .n0)))))),
  (468401593, 486, (.tf ue2_259 (.vf 483) (.vf 485))),
  (467401589, 487, (.tf ue2_259 (.vf 482) (.vf 484))),
  (1909159176, 488, (.tf ue2_260 (.vf 481) (.vf 486))),
  (1908159174, 489, (.tf ue2_260 (.vf 480) (.vf 487))),
  (4261914035, 490, (.af 23 0 (.cf (.vf 476) (.cf (.vf 477) (.cf (.vf 478) (.cf (.vf 479) .n0)))))),
  (4262914038, 491, (.af 23 1 (.cf (.vf 476) (.cf (.vf 477) (.cf (.vf 478) (.cf (.vf 479) .n0)))))),
  (966512642, 492, (.tf ue2_261 (.vf 491) (.vf 488))),
  (965512640, 493, (.tf ue2_261 (.vf 490) (.vf 489))),
  (1062070362, 494, (.tf ue2_235 ue2_262 (.tf (.vb 2) (.vf 492) (.vf 488)))),
  (1063070366, 495, (.tf ue2_235 ue2_262 (.tf (.vb 2) (.vf 493) (.vf 489)))),
  (3298305471, 496, (.tf ue2_264 (.vf 391) (.tf ue2_265 (.vf 443) (.vf 495)))),
  (3296305464, 497, (.tf ue2_264 (.vf 390) (.tf ue2_265 (.vf 442) (.vf 494)))),
  (1006342929, 498, (.tf ue2_267 (.vf 391) (.tf ue2_268 (.vf 443) (.vf 495)))),
  (1004342922, 499, (.tf ue2_267 (.vf 390) (.tf ue2_268 (.vf 442) (.vf 494)))),
  (3009347678, 500, (.tf ue2_270 (.vf 391) (.tf ue2_271 (.vf 443) (.vf 495)))),
  (3007347671, 501, (.tf ue2_270 (.vf 390) (.tf ue2_271 (.vf 442) (.vf 494)))),
  (837710528, 502, (.tf ue2_237 ue2_53 (.tf ue2_238 ue2_22 (.tf ue2_239 ue2_23 (.tf ue2_240 ue2_7 (.tf ue2_241 (.vf 157) (.tf ue2_242 (.vf 209) (.tf ue2_243 (.vf 261) (.tf ue2_244 (.vf 313) (.tf ue2_245 (.vf 365) (.tf ue2_246 (.vf 417) (.vf 469)))))))))))),
  (508923813, 503, (.tf ue2_237 ue2_54 (.tf ue2_238 ue2_24 (.tf ue2_239 ue2_25 (.tf ue2_240 ue2_7 (.tf ue2_241 (.vf 156) (.tf ue2_242 (.vf 208) (.tf ue2_243 (.vf 260) (.tf ue2_244 (.vf 312) (.tf ue2_245 (.vf 364) (.tf ue2_246 (.vf 416) (.vf 468)))))))))))),
  (571839729, 504, (.tf ue2_248 ue2_53 (.tf ue2_249 ue2_22 (.tf ue2_250 ue2_23 (.tf ue2_251 ue2_7 (.tf ue2_252 (.vf 157) (.tf ue2_253 (.vf 209) (.tf ue2_254 (.vf 261) (.tf ue2_255 (.vf 313) (.tf ue2_256 (.vf 365) (.tf ue2_257 (.vf 417) (.vf 469)))))))))))),
  (243053014, 505, (.tf ue2_248 ue2_54 (.tf ue2_249 ue2_24 (.tf ue2_250 ue2_25 (.tf ue2_251 ue2_7 (.tf ue2_252 (.vf 156) (.tf ue2_253 (.vf 208) (.tf ue2_254 (.vf 260) (.tf ue2_255 (.vf 312) (.tf ue2_256 (.vf 364) (.tf ue2_257 (.vf 416) (.vf 468)))))))))))),
  (2235083438, 506, (.af 20 0 (.cf (.vf 502) (.cf (.vf 503) (.cf (.vf 504) (.cf (.vf 505) .n0)))))),
  (2236083441, 507, (.af 20 1 (.cf (.vf 502) (.cf (.vf 503) (.cf (.vf 504) (.cf (.vf 505) .n0)))))),
  (1513704644, 508, (.af 21 0 (.cf (.vf 502) (.cf (.vf 503) (.cf (.vf 504) (.cf (.vf 505) .n0)))))),
  (1514704647, 509, (.af 21 1 (.cf (.vf 502) (.cf (.vf 503) (.cf (.vf 504) (.cf (.vf 505) .n0)))))),
  (792325850, 510, (.af 22 0 (.cf (.vf 502) (.cf (.vf 503) (.cf (.vf 504) (.cf (.vf 505) .n0)))))),
  (793325853, 511, (.af 22 1 (.cf (.vf 502) (.cf (.vf 503) (.cf (.vf 504) (.cf (.vf 505) .n0)))))),
  (494401697, 512, (.tf ue2_259 (.vf 509) (.vf 511))),
  (493401693, 513, (.tf ue2_259 (.vf 508) (.vf 510))),
  (1935159280, 514, (.tf ue2_260 (.vf 507) (.vf 512))),
  (1934159278, 515, (.tf ue2_260 (.vf 506) (.vf 513))),
  (70947056, 516, (.af 23 0 (.cf (.vf 502) (.cf (.vf 503) (.cf (.vf 504) (.cf (.vf 505) .n0)))))),
  (71947059, 517, (.af 23 1 (.cf (.vf 502) (.cf (.vf 503) (.cf (.vf 504) (.cf (.vf 505) .n0)))))),
  (992512746, 518, (.tf ue2_261 (.vf 517) (.vf 514))),
  (991512744, 519, (.tf ue2_261 (.vf 516) (.vf 515))),
  (1088070466, 520, (.tf ue2_235 ue2_262 (.tf (.vb 2) (.vf 518) (.vf 514)))),
  (1089070470, 521, (.tf ue2_235 ue2_262 (.tf (.vb 2) (.vf 519) (.vf 515)))),
  (3350305653, 522, (.tf ue2_264 (.vf 417) (.tf ue2_265 (.vf 469) (.vf 521)))),
  (3348305646, 523, (.tf ue2_264 (.vf 416) (.tf ue2_265 (.vf 468) (.vf 520)))),
  (1058343111, 524, (.tf ue2_267 (.vf 417) (.tf ue2_268 (.vf 469) (.vf 521)))),
  (1056343104, 525, (.tf ue2_267 (.vf 416) (.tf ue2_268 (.vf 468) (.vf 520)))),
  (3061347860, 526, (.tf ue2_270 (.vf 417) (.tf ue2_271 (.vf 469) (.vf 521)))),
  (3059347853, 527, (.tf ue2_270 (.vf 416) (.tf ue2_271 (.vf 468) (.vf 520))))]
set_option maxRecDepth 1000000 in
set_option maxHeartbeats 100000000 in
theorem uG2 : tabGood 100 uN2 = true := by kernel_rfl
end Go.Proofs.Ytilhcamdjehpnaa
