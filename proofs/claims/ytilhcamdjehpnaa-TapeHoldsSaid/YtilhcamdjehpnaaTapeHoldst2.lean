/-
  'TapeHolds': what names stand for, where the first rest is 2.
-/
import Derived.Test.YtilhcamdjehpnaaM3s
namespace Go.Proofs.Ytilhcamdjehpnaa
open Go.RowKit Ex
def xe2_0 : E := (.ic .eql (.ai 9 0 (.ci (.at 1 0) (.ci (.li 11) .n0))) (.li 0))
def xe2_1 : E := (.ti xe2_0 (.li 0) (.ai 9 0 (.ci (.ib .quo .i64 (.at 1 0) (.li 4)) (.ci (.li 4) .n0))))
def xe2_2 : E := (.ic .eql xe2_1 (.li 0))
def xe2_3 : E := (.i2f (.ib .sub .i64 (.ai 9 0 (.ci (.ti (.ic .lss (.li 0) (.vl 2)) (.at 2 0) (.li 0)) (.ci (.li 7) .n0))) (.li 3)))
def xe2_4 : E := (.ic .eql xe2_1 (.li 1))
def xe2_5 : E := (.i2f (.ib .sub .i64 (.ai 9 0 (.ci (.ti (.ic .lss (.li 1) (.vl 2)) (.at 2 1) (.li 1)) (.ci (.li 7) .n0))) (.li 3)))
def xe2_6 : E := (.ic .eql xe2_1 (.li 2))
def xe2_7 : E := (.i2f (.ib .sub .i64 (.ai 9 0 (.ci (.ti (.ic .lss (.li 2) (.vl 2)) (.at 2 2) (.li 2)) (.ci (.li 7) .n0))) (.li 3)))
def xe2_8 : E := (.ib .sub .i64 (.ai 9 0 (.ci (.vi 0) (.ci (.li 17) .n0))) (.li 8))
def xe2_9 : E := (.fb .quo (.i2f (.ib .sub .i64 xe2_8 (.ai 9 0 (.ci xe2_8 (.ci (.li 4) .n0))))) (.lf 4616189618054758400))
def xe2_10 : E := (.tf xe2_2 xe2_3 (.tf xe2_4 xe2_5 (.tf xe2_6 xe2_7 xe2_9)))
def xe2_11 : E := (.ti xe2_0 (.li 0) (.ai 9 0 (.ci (.ib .quo .i64 (.at 1 0) (.li 40)) (.ci (.li 4) .n0))))
def xe2_12 : E := (.ic .eql xe2_11 (.li 0))
def xe2_13 : E := (.ic .eql xe2_11 (.li 1))
def xe2_14 : E := (.ic .eql xe2_11 (.li 2))
def xe2_15 : E := (.tf xe2_12 xe2_3 (.tf xe2_13 xe2_5 (.tf xe2_14 xe2_7 xe2_9)))
def xe2_16 : E := (.ib .add .i64 (.li 2) (.ai 9 0 (.ci (.at 1 0) (.ci (.li 3) .n0))))
def xe2_17 : E := (.ic .eql xe2_16 (.li 3))
def xe2_18 : E := (.ic .eql xe2_16 (.li 2))
def xe2_19 : E := (.ib .sub .i64 (.ai 9 0 (.ci (.ib .quo .i64 (.at 1 0) (.li 11)) (.ci (.li 33) .n0))) (.li 16))
def xe2_20 : E := (.tf xe2_0 (.fb .quo (.i2f (.ib .sub .i64 xe2_19 (.ai 9 0 (.ci xe2_19 (.ci (.li 8) .n0))))) (.lf 4620693217682128896)) (.lf 0))
def xe2_21 : E := (.tf xe2_0 (.fb .quo (.i2f xe2_19) (.lf 4620693217682128896)) (.lf 0))
def xe2_22 : E := (.tf xe2_0 xe2_20 xe2_21)
def xe2_23 : E := (.ib .quo .i64 (.vi 0) (.li 3))
def xe2_24 : E := (.ai 9 0 (.ci (.ib .add .i64 xe2_23 (.li 0)) (.ci (.li 3) .n0)))
def xe2_25 : E := (.ib .sub .i64 (.ib .sub .i64 (.li 4) xe2_24) (.li 2))
def xe2_26 : E := (.ic .eql xe2_25 (.li 0))
def xe2_27 : E := (.ic .eql xe2_25 (.li 1))
def xe2_28 : E := (.ai 9 0 (.ci (.ib .add .i64 xe2_23 (.li 1)) (.ci (.li 3) .n0)))
def xe2_29 : E := (.ib .sub .i64 (.ib .sub .i64 (.li 4) xe2_28) (.li 2))
def xe2_30 : E := (.ic .eql xe2_29 (.li 0))
def xe2_31 : E := (.ic .eql xe2_29 (.li 1))
def xe2_32 : E := (.ai 9 0 (.ci (.ib .add .i64 xe2_23 (.li 2)) (.ci (.li 3) .n0)))
def xe2_33 : E := (.ib .sub .i64 (.ib .sub .i64 (.li 4) xe2_32) (.li 2))
def xe2_34 : E := (.ic .eql xe2_33 (.li 0))
def xe2_35 : E := (.ic .eql xe2_33 (.li 1))
def xe2_36 : E := (.ti (.ic .lss (.li 0) (.vl 3)) (.at 3 0) (.li 0))
def xe2_37 : E := (.fb .sub xe2_3 (.i2f (.ai 9 0 (.ci xe2_36 (.ci (.li 4) .n0)))))
def xe2_38 : E := (.ti (.ic .lss (.li 1) (.vl 3)) (.at 3 1) (.li 0))
def xe2_39 : E := (.fb .sub xe2_5 (.i2f (.ai 9 0 (.ci xe2_38 (.ci (.li 4) .n0)))))
def xe2_40 : E := (.ti (.ic .lss (.li 2) (.vl 3)) (.at 3 2) (.li 0))
def xe2_41 : E := (.fb .sub xe2_7 (.i2f (.ai 9 0 (.ci xe2_40 (.ci (.li 4) .n0)))))
def xe2_42 : E := (.fb .add xe2_3 (.i2f (.ai 9 0 (.ci (.ib .quo .i64 xe2_36 (.li 4)) (.ci (.li 4) .n0)))))
def xe2_43 : E := (.fb .add xe2_5 (.i2f (.ai 9 0 (.ci (.ib .quo .i64 xe2_38 (.li 4)) (.ci (.li 4) .n0)))))
def xe2_44 : E := (.fb .add xe2_7 (.i2f (.ai 9 0 (.ci (.ib .quo .i64 xe2_40 (.li 4)) (.ci (.li 4) .n0)))))
def xe2_45 : E := (.ic .eql (.ai 9 0 (.ci (.at 1 1) (.ci (.li 11) .n0))) (.li 0))
def xe2_46 : E := (.ti xe2_45 (.li 0) (.ai 9 0 (.ci (.ib .quo .i64 (.at 1 1) (.li 4)) (.ci (.li 5) .n0))))
def xe2_47 : E := (.ic .eql xe2_46 (.li 0))
def xe2_48 : E := (.ic .eql xe2_46 (.li 1))
def xe2_49 : E := (.ic .eql xe2_46 (.li 2))
def xe2_50 : E := (.ic .eql xe2_46 (.li 3))
def xe2_51 : E := (.ti xe2_45 (.li 0) (.ai 9 0 (.ci (.ib .quo .i64 (.at 1 1) (.li 40)) (.ci (.li 5) .n0))))
def xe2_52 : E := (.ic .eql xe2_51 (.li 0))
def xe2_53 : E := (.ic .eql xe2_51 (.li 1))
def xe2_54 : E := (.ic .eql xe2_51 (.li 2))
def xe2_55 : E := (.ic .eql xe2_51 (.li 3))
def xe2_56 : E := (.ib .add .i64 (.li 2) (.ai 9 0 (.ci (.at 1 1) (.ci (.li 3) .n0))))
def xe2_57 : E := (.ic .eql xe2_56 (.li 3))
def xe2_58 : E := (.ic .eql xe2_56 (.li 2))
def xe2_59 : E := (.ib .sub .i64 (.ai 9 0 (.ci (.ib .quo .i64 (.at 1 1) (.li 11)) (.ci (.li 33) .n0))) (.li 16))
def xe2_60 : E := (.tf xe2_45 (.fb .quo (.i2f (.ib .sub .i64 xe2_59 (.ai 9 0 (.ci xe2_59 (.ci (.li 8) .n0))))) (.lf 4620693217682128896)) (.lf 0))
def xe2_61 : E := (.tf xe2_45 (.fb .quo (.i2f xe2_59) (.lf 4620693217682128896)) (.lf 0))
def xe2_62 : E := (.tf xe2_45 xe2_60 xe2_61)
def xe2_63 : E := (.ib .sub .i64 (.ib .sub .i64 (.li 5) xe2_24) (.li 3))
def xe2_64 : E := (.ic .eql xe2_63 (.li 0))
def xe2_65 : E := (.ic .eql xe2_63 (.li 1))
def xe2_66 : E := (.ib .sub .i64 (.ib .sub .i64 (.li 5) xe2_28) (.li 3))
def xe2_67 : E := (.ic .eql xe2_66 (.li 0))
def xe2_68 : E := (.ic .eql xe2_66 (.li 1))
def xe2_69 : E := (.ib .sub .i64 (.ib .sub .i64 (.li 5) xe2_32) (.li 3))
def xe2_70 : E := (.ic .eql xe2_69 (.li 0))
def xe2_71 : E := (.ic .eql xe2_69 (.li 1))
def xe2_72 : E := (.ic .eql (.ai 9 0 (.ci (.at 1 2) (.ci (.li 11) .n0))) (.li 0))
def xe2_73 : E := (.ti xe2_72 (.li 0) (.ai 9 0 (.ci (.ib .quo .i64 (.at 1 2) (.li 4)) (.ci (.li 6) .n0))))
def xe2_74 : E := (.ic .eql xe2_73 (.li 0))
def xe2_75 : E := (.ic .eql xe2_73 (.li 1))
def xe2_76 : E := (.ic .eql xe2_73 (.li 2))
def xe2_77 : E := (.ic .eql xe2_73 (.li 3))
def xe2_78 : E := (.ic .eql xe2_73 (.li 4))
def xe2_79 : E := (.ti xe2_72 (.li 0) (.ai 9 0 (.ci (.ib .quo .i64 (.at 1 2) (.li 40)) (.ci (.li 6) .n0))))
def xe2_80 : E := (.ic .eql xe2_79 (.li 0))
def xe2_81 : E := (.ic .eql xe2_79 (.li 1))
def xe2_82 : E := (.ic .eql xe2_79 (.li 2))
def xe2_83 : E := (.ic .eql xe2_79 (.li 3))
def xe2_84 : E := (.ic .eql xe2_79 (.li 4))
def xe2_85 : E := (.ib .add .i64 (.li 2) (.ai 9 0 (.ci (.at 1 2) (.ci (.li 3) .n0))))
def xe2_86 : E := (.ic .eql xe2_85 (.li 3))
def xe2_87 : E := (.ic .eql xe2_85 (.li 2))
def xe2_88 : E := (.ib .sub .i64 (.ai 9 0 (.ci (.ib .quo .i64 (.at 1 2) (.li 11)) (.ci (.li 33) .n0))) (.li 16))
def xe2_89 : E := (.tf xe2_72 (.fb .quo (.i2f (.ib .sub .i64 xe2_88 (.ai 9 0 (.ci xe2_88 (.ci (.li 8) .n0))))) (.lf 4620693217682128896)) (.lf 0))
def xe2_90 : E := (.tf xe2_72 (.fb .quo (.i2f xe2_88) (.lf 4620693217682128896)) (.lf 0))
def xe2_91 : E := (.tf xe2_72 xe2_89 xe2_90)
def xe2_92 : E := (.ib .sub .i64 (.ib .sub .i64 (.li 6) xe2_24) (.li 4))
def xe2_93 : E := (.ic .eql xe2_92 (.li 0))
def xe2_94 : E := (.ic .eql xe2_92 (.li 1))
def xe2_95 : E := (.ib .sub .i64 (.ib .sub .i64 (.li 6) xe2_28) (.li 4))
def xe2_96 : E := (.ic .eql xe2_95 (.li 0))
def xe2_97 : E := (.ic .eql xe2_95 (.li 1))
def xe2_98 : E := (.ib .sub .i64 (.ib .sub .i64 (.li 6) xe2_32) (.li 4))
def xe2_99 : E := (.ic .eql xe2_98 (.li 0))
def xe2_100 : E := (.ic .eql xe2_98 (.li 1))
def xe2_101 : E := (.ic .eql (.ai 9 0 (.ci (.at 1 3) (.ci (.li 11) .n0))) (.li 0))
def xe2_102 : E := (.ib .sub .i64 (.ai 9 0 (.ci (.ib .quo .i64 (.at 1 3) (.li 11)) (.ci (.li 33) .n0))) (.li 16))
def xe2_103 : E := (.tf xe2_101 (.fb .quo (.i2f (.ib .sub .i64 xe2_102 (.ai 9 0 (.ci xe2_102 (.ci (.li 8) .n0))))) (.lf 4620693217682128896)) (.lf 0))
def xe2_104 : E := (.ti xe2_101 (.li 0) (.ai 9 0 (.ci (.ib .quo .i64 (.at 1 3) (.li 4)) (.ci (.li 7) .n0))))
def xe2_105 : E := (.ic .eql xe2_104 (.li 0))
def xe2_106 : E := (.ic .eql xe2_104 (.li 1))
def xe2_107 : E := (.ic .eql xe2_104 (.li 2))
def xe2_108 : E := (.ic .eql xe2_104 (.li 3))
def xe2_109 : E := (.ic .eql xe2_104 (.li 4))
def xe2_110 : E := (.ic .eql xe2_104 (.li 5))
def xe2_111 : E := (.ti xe2_101 (.li 0) (.ai 9 0 (.ci (.ib .quo .i64 (.at 1 3) (.li 40)) (.ci (.li 7) .n0))))
def xe2_112 : E := (.ic .eql xe2_111 (.li 0))
def xe2_113 : E := (.ic .eql xe2_111 (.li 1))
def xe2_114 : E := (.ic .eql xe2_111 (.li 2))
def xe2_115 : E := (.ic .eql xe2_111 (.li 3))
def xe2_116 : E := (.ic .eql xe2_111 (.li 4))
def xe2_117 : E := (.ic .eql xe2_111 (.li 5))
def xe2_118 : E := (.ib .add .i64 (.li 2) (.ai 9 0 (.ci (.at 1 3) (.ci (.li 3) .n0))))
def xe2_119 : E := (.ic .eql xe2_118 (.li 3))
def xe2_120 : E := (.ic .eql xe2_118 (.li 2))
def xe2_121 : E := (.tf xe2_101 (.fb .quo (.i2f xe2_102) (.lf 4620693217682128896)) (.lf 0))
def xe2_122 : E := (.tf xe2_101 xe2_103 xe2_121)
def xe2_123 : E := (.ib .sub .i64 (.ib .sub .i64 (.li 7) xe2_24) (.li 5))
def xe2_124 : E := (.ic .eql xe2_123 (.li 0))
def xe2_125 : E := (.ic .eql xe2_123 (.li 1))
def xe2_126 : E := (.ib .sub .i64 (.ib .sub .i64 (.li 7) xe2_28) (.li 5))
def xe2_127 : E := (.ic .eql xe2_126 (.li 0))
def xe2_128 : E := (.ic .eql xe2_126 (.li 1))
def xe2_129 : E := (.ib .sub .i64 (.ib .sub .i64 (.li 7) xe2_32) (.li 5))
def xe2_130 : E := (.ic .eql xe2_129 (.li 0))
def xe2_131 : E := (.ic .eql xe2_129 (.li 1))
def xe2_132 : E := (.ic .eql (.ai 9 0 (.ci (.at 1 4) (.ci (.li 11) .n0))) (.li 0))
def xe2_133 : E := (.ib .sub .i64 (.ai 9 0 (.ci (.ib .quo .i64 (.at 1 4) (.li 11)) (.ci (.li 33) .n0))) (.li 16))
def xe2_134 : E := (.tf xe2_132 (.fb .quo (.i2f (.ib .sub .i64 xe2_133 (.ai 9 0 (.ci xe2_133 (.ci (.li 8) .n0))))) (.lf 4620693217682128896)) (.lf 0))
def xe2_135 : E := (.ti xe2_132 (.li 0) (.ai 9 0 (.ci (.ib .quo .i64 (.at 1 4) (.li 4)) (.ci (.li 8) .n0))))
def xe2_136 : E := (.ic .eql xe2_135 (.li 0))
def xe2_137 : E := (.ic .eql xe2_135 (.li 1))
def xe2_138 : E := (.ic .eql xe2_135 (.li 2))
def xe2_139 : E := (.ic .eql xe2_135 (.li 3))
def xe2_140 : E := (.ic .eql xe2_135 (.li 4))
def xe2_141 : E := (.ic .eql xe2_135 (.li 5))
def xe2_142 : E := (.ic .eql xe2_135 (.li 6))
def xe2_143 : E := (.ti xe2_132 (.li 0) (.ai 9 0 (.ci (.ib .quo .i64 (.at 1 4) (.li 40)) (.ci (.li 8) .n0))))
def xe2_144 : E := (.ic .eql xe2_143 (.li 0))
def xe2_145 : E := (.ic .eql xe2_143 (.li 1))
def xe2_146 : E := (.ic .eql xe2_143 (.li 2))
def xe2_147 : E := (.ic .eql xe2_143 (.li 3))
def xe2_148 : E := (.ic .eql xe2_143 (.li 4))
def xe2_149 : E := (.ic .eql xe2_143 (.li 5))
def xe2_150 : E := (.ic .eql xe2_143 (.li 6))
def xe2_151 : E := (.ib .add .i64 (.li 2) (.ai 9 0 (.ci (.at 1 4) (.ci (.li 3) .n0))))
def xe2_152 : E := (.ic .eql xe2_151 (.li 3))
def xe2_153 : E := (.ic .eql xe2_151 (.li 2))
def xe2_154 : E := (.tf xe2_132 (.fb .quo (.i2f xe2_133) (.lf 4620693217682128896)) (.lf 0))
def xe2_155 : E := (.tf xe2_132 xe2_134 xe2_154)
def xe2_156 : E := (.ib .sub .i64 (.ib .sub .i64 (.li 8) xe2_24) (.li 6))
def xe2_157 : E := (.ic .eql xe2_156 (.li 0))
def xe2_158 : E := (.ic .eql xe2_156 (.li 1))
def xe2_159 : E := (.ib .sub .i64 (.ib .sub .i64 (.li 8) xe2_28) (.li 6))
def xe2_160 : E := (.ic .eql xe2_159 (.li 0))
def xe2_161 : E := (.ic .eql xe2_159 (.li 1))
def xe2_162 : E := (.ib .sub .i64 (.ib .sub .i64 (.li 8) xe2_32) (.li 6))
def xe2_163 : E := (.ic .eql xe2_162 (.li 0))
def xe2_164 : E := (.ic .eql xe2_162 (.li 1))
def xe2_165 : E := (.ic .eql (.ai 9 0 (.ci (.at 1 5) (.ci (.li 11) .n0))) (.li 0))
def xe2_166 : E := (.ib .sub .i64 (.ai 9 0 (.ci (.ib .quo .i64 (.at 1 5) (.li 11)) (.ci (.li 33) .n0))) (.li 16))
def xe2_167 : E := (.tf xe2_165 (.fb .quo (.i2f xe2_166) (.lf 4620693217682128896)) (.lf 0))
def xe2_168 : E := (.tf xe2_165 (.fb .quo (.i2f (.ib .sub .i64 xe2_166 (.ai 9 0 (.ci xe2_166 (.ci (.li 8) .n0))))) (.lf 4620693217682128896)) (.lf 0))
def xe2_169 : E := (.ti xe2_165 (.li 0) (.ai 9 0 (.ci (.ib .quo .i64 (.at 1 5) (.li 4)) (.ci (.li 9) .n0))))
def xe2_170 : E := (.ic .eql xe2_169 (.li 0))
def xe2_171 : E := (.ic .eql xe2_169 (.li 1))
def xe2_172 : E := (.ic .eql xe2_169 (.li 2))
def xe2_173 : E := (.ic .eql xe2_169 (.li 3))
def xe2_174 : E := (.ic .eql xe2_169 (.li 4))
def xe2_175 : E := (.ic .eql xe2_169 (.li 5))
def xe2_176 : E := (.ic .eql xe2_169 (.li 6))
def xe2_177 : E := (.ic .eql xe2_169 (.li 7))
def xe2_178 : E := (.ti xe2_165 (.li 0) (.ai 9 0 (.ci (.ib .quo .i64 (.at 1 5) (.li 40)) (.ci (.li 9) .n0))))
def xe2_179 : E := (.ic .eql xe2_178 (.li 0))
def xe2_180 : E := (.ic .eql xe2_178 (.li 1))
def xe2_181 : E := (.ic .eql xe2_178 (.li 2))
def xe2_182 : E := (.ic .eql xe2_178 (.li 3))
def xe2_183 : E := (.ic .eql xe2_178 (.li 4))
def xe2_184 : E := (.ic .eql xe2_178 (.li 5))
def xe2_185 : E := (.ic .eql xe2_178 (.li 6))
def xe2_186 : E := (.ic .eql xe2_178 (.li 7))
def xe2_187 : E := (.ib .add .i64 (.li 2) (.ai 9 0 (.ci (.at 1 5) (.ci (.li 3) .n0))))
def xe2_188 : E := (.ic .eql xe2_187 (.li 3))
def xe2_189 : E := (.ic .eql xe2_187 (.li 2))
def xe2_190 : E := (.tf xe2_165 xe2_168 xe2_167)
def xe2_191 : E := (.ib .sub .i64 (.ib .sub .i64 (.li 9) xe2_24) (.li 7))
def xe2_192 : E := (.ic .eql xe2_191 (.li 0))
def xe2_193 : E := (.ic .eql xe2_191 (.li 1))
def xe2_194 : E := (.ib .sub .i64 (.ib .sub .i64 (.li 9) xe2_28) (.li 7))
def xe2_195 : E := (.ic .eql xe2_194 (.li 0))
def xe2_196 : E := (.ic .eql xe2_194 (.li 1))
def xe2_197 : E := (.ib .sub .i64 (.ib .sub .i64 (.li 9) xe2_32) (.li 7))
def xe2_198 : E := (.ic .eql xe2_197 (.li 0))
def xe2_199 : E := (.ic .eql xe2_197 (.li 1))
def xe2_200 : E := (.ic .eql (.ai 9 0 (.ci (.at 1 6) (.ci (.li 11) .n0))) (.li 0))
def xe2_201 : E := (.ib .sub .i64 (.ai 9 0 (.ci (.ib .quo .i64 (.at 1 6) (.li 11)) (.ci (.li 33) .n0))) (.li 16))
def xe2_202 : E := (.tf xe2_200 (.fb .quo (.i2f xe2_201) (.lf 4620693217682128896)) (.lf 0))
def xe2_203 : E := (.tf xe2_200 (.fb .quo (.i2f (.ib .sub .i64 xe2_201 (.ai 9 0 (.ci xe2_201 (.ci (.li 8) .n0))))) (.lf 4620693217682128896)) (.lf 0))
def xe2_204 : E := (.ti xe2_200 (.li 0) (.ai 9 0 (.ci (.ib .quo .i64 (.at 1 6) (.li 4)) (.ci (.li 10) .n0))))
def xe2_205 : E := (.ic .eql xe2_204 (.li 0))
def xe2_206 : E := (.ic .eql xe2_204 (.li 1))
def xe2_207 : E := (.ic .eql xe2_204 (.li 2))
def xe2_208 : E := (.ic .eql xe2_204 (.li 3))
def xe2_209 : E := (.ic .eql xe2_204 (.li 4))
def xe2_210 : E := (.ic .eql xe2_204 (.li 5))
def xe2_211 : E := (.ic .eql xe2_204 (.li 6))
def xe2_212 : E := (.ic .eql xe2_204 (.li 7))
def xe2_213 : E := (.ic .eql xe2_204 (.li 8))
def xe2_214 : E := (.ti xe2_200 (.li 0) (.ai 9 0 (.ci (.ib .quo .i64 (.at 1 6) (.li 40)) (.ci (.li 10) .n0))))
def xe2_215 : E := (.ic .eql xe2_214 (.li 0))
def xe2_216 : E := (.ic .eql xe2_214 (.li 1))
def xe2_217 : E := (.ic .eql xe2_214 (.li 2))
def xe2_218 : E := (.ic .eql xe2_214 (.li 3))
def xe2_219 : E := (.ic .eql xe2_214 (.li 4))
def xe2_220 : E := (.ic .eql xe2_214 (.li 5))
def xe2_221 : E := (.ic .eql xe2_214 (.li 6))
def xe2_222 : E := (.ic .eql xe2_214 (.li 7))
def xe2_223 : E := (.ic .eql xe2_214 (.li 8))
def xe2_224 : E := (.ib .add .i64 (.li 2) (.ai 9 0 (.ci (.at 1 6) (.ci (.li 3) .n0))))
def xe2_225 : E := (.ic .eql xe2_224 (.li 3))
def xe2_226 : E := (.ic .eql xe2_224 (.li 2))
def xe2_227 : E := (.tf xe2_200 xe2_203 xe2_202)
def xe2_228 : E := (.ib .sub .i64 (.ib .sub .i64 (.li 10) xe2_24) (.li 8))
def xe2_229 : E := (.ic .eql xe2_228 (.li 0))
def xe2_230 : E := (.ic .eql xe2_228 (.li 1))
def xe2_231 : E := (.ib .sub .i64 (.ib .sub .i64 (.li 10) xe2_28) (.li 8))
def xe2_232 : E := (.ic .eql xe2_231 (.li 0))
def xe2_233 : E := (.ic .eql xe2_231 (.li 1))
def xe2_234 : E := (.ib .sub .i64 (.ib .sub .i64 (.li 10) xe2_32) (.li 8))
def xe2_235 : E := (.ic .eql xe2_234 (.li 0))
def xe2_236 : E := (.ic .eql xe2_234 (.li 1))
def xe2_237 : E := (.ic .eql (.ai 9 0 (.ci (.at 1 7) (.ci (.li 11) .n0))) (.li 0))
def xe2_238 : E := (.ib .sub .i64 (.ai 9 0 (.ci (.ib .quo .i64 (.at 1 7) (.li 11)) (.ci (.li 33) .n0))) (.li 16))
def xe2_239 : E := (.tf xe2_237 (.fb .quo (.i2f xe2_238) (.lf 4620693217682128896)) (.lf 0))
def xe2_240 : E := (.tf xe2_237 (.fb .quo (.i2f (.ib .sub .i64 xe2_238 (.ai 9 0 (.ci xe2_238 (.ci (.li 8) .n0))))) (.lf 4620693217682128896)) (.lf 0))
def xe2_241 : E := (.ti xe2_237 (.li 0) (.ai 9 0 (.ci (.ib .quo .i64 (.at 1 7) (.li 4)) (.ci (.li 11) .n0))))
def xe2_242 : E := (.ic .eql xe2_241 (.li 0))
def xe2_243 : E := (.ic .eql xe2_241 (.li 1))
def xe2_244 : E := (.ic .eql xe2_241 (.li 2))
def xe2_245 : E := (.ic .eql xe2_241 (.li 3))
def xe2_246 : E := (.ic .eql xe2_241 (.li 4))
def xe2_247 : E := (.ic .eql xe2_241 (.li 5))
def xe2_248 : E := (.ic .eql xe2_241 (.li 6))
def xe2_249 : E := (.ic .eql xe2_241 (.li 7))
def xe2_250 : E := (.ic .eql xe2_241 (.li 8))
def xe2_251 : E := (.ic .eql xe2_241 (.li 9))
def xe2_252 : E := (.ti xe2_237 (.li 0) (.ai 9 0 (.ci (.ib .quo .i64 (.at 1 7) (.li 40)) (.ci (.li 11) .n0))))
def xe2_253 : E := (.ic .eql xe2_252 (.li 0))
def xe2_254 : E := (.ic .eql xe2_252 (.li 1))
def xe2_255 : E := (.ic .eql xe2_252 (.li 2))
def xe2_256 : E := (.ic .eql xe2_252 (.li 3))
def xe2_257 : E := (.ic .eql xe2_252 (.li 4))
def xe2_258 : E := (.ic .eql xe2_252 (.li 5))
def xe2_259 : E := (.ic .eql xe2_252 (.li 6))
def xe2_260 : E := (.ic .eql xe2_252 (.li 7))
def xe2_261 : E := (.ic .eql xe2_252 (.li 8))
def xe2_262 : E := (.ic .eql xe2_252 (.li 9))
def xe2_263 : E := (.ib .add .i64 (.li 2) (.ai 9 0 (.ci (.at 1 7) (.ci (.li 3) .n0))))
def xe2_264 : E := (.ic .eql xe2_263 (.li 3))
def xe2_265 : E := (.ic .eql xe2_263 (.li 2))
def xe2_266 : E := (.tf xe2_237 xe2_240 xe2_239)
def xe2_267 : E := (.ib .sub .i64 (.ib .sub .i64 (.li 11) xe2_24) (.li 9))
def xe2_268 : E := (.ic .eql xe2_267 (.li 0))
def xe2_269 : E := (.ic .eql xe2_267 (.li 1))
def xe2_270 : E := (.ib .sub .i64 (.ib .sub .i64 (.li 11) xe2_28) (.li 9))
def xe2_271 : E := (.ic .eql xe2_270 (.li 0))
def xe2_272 : E := (.ic .eql xe2_270 (.li 1))
def xe2_273 : E := (.ib .sub .i64 (.ib .sub .i64 (.li 11) xe2_32) (.li 9))
def xe2_274 : E := (.ic .eql xe2_273 (.li 0))
def xe2_275 : E := (.ic .eql xe2_273 (.li 1))
def xN2 : Nms := [(886052821, 100, (.fb .add xe2_10 xe2_15)),
  (164674027, 101, (.fb .sub xe2_10 xe2_15)),
  (3738262524, 102, (.fb .mul xe2_10 xe2_15)),
  (4127447219, 103, (.tf xe2_17 (.vf 101) (.vf 102))),
  (1274237514, 104, (.tf xe2_18 (.vf 100) (.vf 103))),
  (442403302, 105, (.tf xe2_0 xe2_22 (.vf 104))),
  (671108871, 106, (.tf xe2_26 xe2_7 (.tf xe2_27 xe2_9 (.vf 105)))),
  (2674113620, 107, (.tf xe2_30 xe2_7 (.tf xe2_31 xe2_9 (.vf 105)))),
  (382151078, 108, (.tf xe2_34 xe2_7 (.tf xe2_35 xe2_9 (.vf 105)))),
  (1135058419, 109, (.af 20 0 (.cf (.tf xe2_2 xe2_37 (.tf xe2_4 xe2_39 (.tf xe2_6 xe2_41 xe2_9))) (.cf (.tf xe2_2 xe2_42 (.tf xe2_4 xe2_43 (.tf xe2_6 xe2_44 xe2_9))) (.cf (.tf xe2_12 xe2_37 (.tf xe2_13 xe2_39 (.tf xe2_14 xe2_41 xe2_9))) (.cf (.tf xe2_12 xe2_42 (.tf xe2_13 xe2_43 (.tf xe2_14 xe2_44 xe2_9))) .n0)))))),
  (1136058422, 110, (.af 20 1 (.cf (.tf xe2_2 xe2_37 (.tf xe2_4 xe2_39 (.tf xe2_6 xe2_41 xe2_9))) (.cf (.tf xe2_2 xe2_42 (.tf xe2_4 xe2_43 (.tf xe2_6 xe2_44 xe2_9))) (.cf (.tf xe2_12 xe2_37 (.tf xe2_13 xe2_39 (.tf xe2_14 xe2_41 xe2_9))) (.cf (.tf xe2_12 xe2_42 (.tf xe2_13 xe2_43 (.tf xe2_14 xe2_44 xe2_9))) .n0)))))),
  (413679625, 111, (.af 21 0 (.cf (.tf xe2_2 xe2_37 (.tf xe2_4 xe2_39 (.tf xe2_6 xe2_41 xe2_9))) (.cf (.tf xe2_2 xe2_42 (.tf xe2_4 xe2_43 (.tf xe2_6 xe2_44 xe2_9))) (.cf (.tf xe2_12 xe2_37 (.tf xe2_13 xe2_39 (.tf xe2_14 xe2_41 xe2_9))) (.cf (.tf xe2_12 xe2_42 (.tf xe2_13 xe2_43 (.tf xe2_14 xe2_44 xe2_9))) .n0)))))),
  (414679628, 112, (.af 21 1 (.cf (.tf xe2_2 xe2_37 (.tf xe2_4 xe2_39 (.tf xe2_6 xe2_41 xe2_9))) (.cf (.tf xe2_2 xe2_42 (.tf xe2_4 xe2_43 (.tf xe2_6 xe2_44 xe2_9))) (.cf (.tf xe2_12 xe2_37 (.tf xe2_13 xe2_39 (.tf xe2_14 xe2_41 xe2_9))) (.cf (.tf xe2_12 xe2_42 (.tf xe2_13 xe2_43 (.tf xe2_14 xe2_44 xe2_9))) .n0)))))),
  (3987268122, 113, (.af 22 0 (.cf (.tf xe2_2 xe2_37 (.tf xe2_4 xe2_39 (.tf xe2_6 xe2_41 xe2_9))) (.cf (.tf xe2_2 xe2_42 (.tf xe2_4 xe2_43 (.tf xe2_6 xe2_44 xe2_9))) (.cf (.tf xe2_12 xe2_37 (.tf xe2_13 xe2_39 (.tf xe2_14 xe2_41 xe2_9))) (.cf (.tf xe2_12 xe2_42 (.tf xe2_13 xe2_43 (.tf xe2_14 xe2_44 xe2_9))) .n0)))))),
  (3988268125, 114, (.af 22 1 (.cf (.tf xe2_2 xe2_37 (.tf xe2_4 xe2_39 (.tf xe2_6 xe2_41 xe2_9))) (.cf (.tf xe2_2 xe2_42 (.tf xe2_4 xe2_43 (.tf xe2_6 xe2_44 xe2_9))) (.cf (.tf xe2_12 xe2_37 (.tf xe2_13 xe2_39 (.tf xe2_14 xe2_41 xe2_9))) (.cf (.tf xe2_12 xe2_42 (.tf xe2_13 xe2_43 (.tf xe2_14 xe2_44 xe2_9))) .n0)))))),
  (4138447264, 115, (.tf xe2_17 (.vf 112) (.vf 114))),
  (4137447260, 116, (.tf xe2_17 (.vf 111) (.vf 113))),
  (1284237556, 117, (.tf xe2_18 (.vf 110) (.vf 115))),
  (1283237554, 118, (.tf xe2_18 (.vf 109) (.vf 116))),
  (442403315, 119, (.tf xe2_0 xe2_22 (.vf 117))),
  (442403316, 120, (.tf xe2_0 xe2_22 (.vf 118))),
  (3004915234, 121, (.tf xe2_26 xe2_41 (.tf xe2_27 xe2_9 (.vf 120)))),
  (3800855972, 122, (.tf xe2_26 xe2_44 (.tf xe2_27 xe2_9 (.vf 119)))),
  (712952692, 123, (.tf xe2_30 xe2_41 (.tf xe2_31 xe2_9 (.vf 120)))),
  (1508893430, 124, (.tf xe2_30 xe2_44 (.tf xe2_31 xe2_9 (.vf 119)))),
  (2715957441, 125, (.tf xe2_34 xe2_41 (.tf xe2_35 xe2_9 (.vf 120)))),
  (3511898179, 126, (.tf xe2_34 xe2_44 (.tf xe2_35 xe2_9 (.vf 119)))),
  (3079100015, 127, (.tf xe2_47 xe2_3 (.tf xe2_48 xe2_5 (.tf xe2_49 xe2_7 (.tf xe2_50 xe2_9 (.vf 105)))))),
  (1254764779, 128, (.tf xe2_52 xe2_3 (.tf xe2_53 xe2_5 (.tf xe2_54 xe2_7 (.tf xe2_55 xe2_9 (.vf 105)))))),
  (3336538175, 129, (.tf xe2_57 (.fb .sub (.vf 127) (.vf 128)) (.fb .mul (.vf 127) (.vf 128)))),
  (2382689449, 130, (.tf xe2_58 (.fb .add (.vf 127) (.vf 128)) (.vf 129))),
  (1066989577, 131, (.tf xe2_45 xe2_62 (.vf 130))),
  (2761860016, 132, (.tf xe2_64 xe2_9 (.tf xe2_65 (.vf 105) (.vf 131)))),
  (469897474, 133, (.tf xe2_67 xe2_9 (.tf xe2_68 (.vf 105) (.vf 131)))),
  (2472902223, 134, (.tf xe2_70 xe2_9 (.tf xe2_71 (.vf 105) (.vf 131)))),
  (1983099317, 135, (.tf xe2_47 xe2_37 (.tf xe2_48 xe2_39 (.tf xe2_49 xe2_41 (.tf xe2_50 xe2_9 (.vf 120)))))),
  (246777468, 136, (.tf xe2_47 xe2_42 (.tf xe2_48 xe2_43 (.tf xe2_49 xe2_44 (.tf xe2_50 xe2_9 (.vf 119)))))),
  (158764081, 137, (.tf xe2_52 xe2_37 (.tf xe2_53 xe2_39 (.tf xe2_54 xe2_41 (.tf xe2_55 xe2_9 (.vf 120)))))),
  (2717409523, 138, (.tf xe2_52 xe2_42 (.tf xe2_53 xe2_43 (.tf xe2_54 xe2_44 (.tf xe2_55 xe2_9 (.vf 119)))))),
  (767079034, 139, (.af 20 0 (.cf (.vf 135) (.cf (.vf 136) (.cf (.vf 137) (.cf (.vf 138) .n0)))))),
  (768079037, 140, (.af 20 1 (.cf (.vf 135) (.cf (.vf 136) (.cf (.vf 137) (.cf (.vf 138) .n0)))))),
  (45700240, 141, (.af 21 0 (.cf (.vf 135) (.cf (.vf 136) (.cf (.vf 137) (.cf (.vf 138) .n0)))))),
  (46700243, 142, (.af 21 1 (.cf (.vf 135) (.cf (.vf 136) (.cf (.vf 137) (.cf (.vf 138) .n0)))))),
  (3619288737, 143, (.af 22 0 (.cf (.vf 135) (.cf (.vf 136) (.cf (.vf 137) (.cf (.vf 138) .n0)))))),
  (3620288740, 144, (.af 22 1 (.cf (.vf 135) (.cf (.vf 136) (.cf (.vf 137) (.cf (.vf 138) .n0)))))),
  (523321154, 145, (.tf xe2_57 (.vf 142) (.vf 144))),
  (522321150, 146, (.tf xe2_57 (.vf 141) (.vf 143))),
  (1964078737, 147, (.tf xe2_58 (.vf 140) (.vf 145))),
  (1963078735, 148, (.tf xe2_58 (.vf 139) (.vf 146))),
  (1066989594, 149, (.tf xe2_45 xe2_62 (.vf 147))),
  (1066989595, 150, (.tf xe2_45 xe2_62 (.vf 148))),
  (2776860080, 151, (.tf xe2_64 xe2_9 (.tf xe2_65 (.vf 120) (.vf 150)))),
  (2775860076, 152, (.tf xe2_64 xe2_9 (.tf xe2_65 (.vf 119) (.vf 149)))),
  (484897538, 153, (.tf xe2_67 xe2_9 (.tf xe2_68 (.vf 120) (.vf 150)))),
  (483897534, 154, (.tf xe2_67 xe2_9 (.tf xe2_68 (.vf 119) (.vf 149)))),
  (2487902287, 155, (.tf xe2_70 xe2_9 (.tf xe2_71 (.vf 120) (.vf 150)))),
  (2486902283, 156, (.tf xe2_70 xe2_9 (.tf xe2_71 (.vf 119) (.vf 149)))),
  (1383909669, 157, (.tf xe2_74 xe2_3 (.tf xe2_75 xe2_5 (.tf xe2_76 xe2_7 (.tf xe2_77 xe2_9 (.tf xe2_78 (.vf 105) (.vf 131))))))),
  (3398457915, 158, (.tf xe2_80 xe2_3 (.tf xe2_81 xe2_5 (.tf xe2_82 xe2_7 (.tf xe2_83 xe2_9 (.tf xe2_84 (.vf 105) (.vf 131))))))),
  (3879852081, 159, (.tf xe2_86 (.fb .sub (.vf 157) (.vf 158)) (.fb .mul (.vf 157) (.vf 158)))),
  (2896003265, 160, (.tf xe2_87 (.fb .add (.vf 157) (.vf 158)) (.vf 159))),
  (1691575856, 161, (.tf xe2_72 xe2_91 (.vf 160))),
  (673752948, 162, (.tf xe2_93 (.vf 105) (.tf xe2_94 (.vf 131) (.vf 161)))),
  (2676757697, 163, (.tf xe2_96 (.vf 105) (.tf xe2_97 (.vf 131) (.vf 161)))),
  (384795155, 164, (.tf xe2_99 (.vf 105) (.tf xe2_100 (.vf 131) (.vf 161)))),
  (302909020, 165, (.tf xe2_74 xe2_37 (.tf xe2_75 xe2_39 (.tf xe2_76 xe2_41 (.tf xe2_77 xe2_9 (.tf xe2_78 (.vf 120) (.vf 150))))))),
  (2860554459, 166, (.tf xe2_74 xe2_42 (.tf xe2_75 xe2_43 (.tf xe2_76 xe2_44 (.tf xe2_77 xe2_9 (.tf xe2_78 (.vf 119) (.vf 149))))))),
  (2317457266, 167, (.tf xe2_80 xe2_37 (.tf xe2_81 xe2_39 (.tf xe2_82 xe2_41 (.tf xe2_83 xe2_9 (.tf xe2_84 (.vf 120) (.vf 150))))))),
  (580135414, 168, (.tf xe2_80 xe2_42 (.tf xe2_81 xe2_43 (.tf xe2_82 xe2_44 (.tf xe2_83 xe2_9 (.tf xe2_84 (.vf 119) (.vf 149))))))),
  (887079394, 169, (.af 20 0 (.cf (.vf 165) (.cf (.vf 166) (.cf (.vf 167) (.cf (.vf 168) .n0)))))),
  (888079397, 170, (.af 20 1 (.cf (.vf 165) (.cf (.vf 166) (.cf (.vf 167) (.cf (.vf 168) .n0)))))),
  (165700600, 171, (.af 21 0 (.cf (.vf 165) (.cf (.vf 166) (.cf (.vf 167) (.cf (.vf 168) .n0)))))),
  (166700603, 172, (.af 21 1 (.cf (.vf 165) (.cf (.vf 166) (.cf (.vf 167) (.cf (.vf 168) .n0)))))),
  (3739289097, 173, (.af 22 0 (.cf (.vf 165) (.cf (.vf 166) (.cf (.vf 167) (.cf (.vf 168) .n0)))))),
  (3740289100, 174, (.af 22 1 (.cf (.vf 165) (.cf (.vf 166) (.cf (.vf 167) (.cf (.vf 168) .n0)))))),
  (1203162335, 175, (.tf xe2_86 (.vf 172) (.vf 174))),
  (1202162331, 176, (.tf xe2_86 (.vf 171) (.vf 173))),
  (2643919918, 177, (.tf xe2_87 (.vf 170) (.vf 175))),
  (2642919916, 178, (.tf xe2_87 (.vf 169) (.vf 176))),
  (1691575873, 179, (.tf xe2_72 xe2_91 (.vf 177))),
  (1691575874, 180, (.tf xe2_72 xe2_91 (.vf 178))),
  (707753069, 181, (.tf xe2_93 (.vf 120) (.tf xe2_94 (.vf 150) (.vf 180)))),
  (705753062, 182, (.tf xe2_93 (.vf 119) (.tf xe2_94 (.vf 149) (.vf 179)))),
  (2710757818, 183, (.tf xe2_96 (.vf 120) (.tf xe2_97 (.vf 150) (.vf 180)))),
  (2708757811, 184, (.tf xe2_96 (.vf 119) (.tf xe2_97 (.vf 149) (.vf 179)))),
  (418795276, 185, (.tf xe2_99 (.vf 120) (.tf xe2_100 (.vf 150) (.vf 180)))),
  (416795269, 186, (.tf xe2_99 (.vf 119) (.tf xe2_100 (.vf 149) (.vf 179)))),
  (2747891526, 187, (.tf xe2_101 xe2_103 (.tf xe2_72 xe2_89 (.tf xe2_45 xe2_60 (.tf xe2_0 xe2_20 xe2_9))))),
  (1557832694, 188, (.tf xe2_105 xe2_3 (.tf xe2_106 xe2_5 (.tf xe2_107 xe2_7 (.tf xe2_108 xe2_9 (.tf xe2_109 (.vf 105) (.tf xe2_110 (.vf 131) (.vf 161)))))))),
  (3116297131, 189, (.tf xe2_112 xe2_3 (.tf xe2_113 xe2_5 (.tf xe2_114 xe2_7 (.tf xe2_115 xe2_9 (.tf xe2_116 (.vf 105) (.tf xe2_117 (.vf 131) (.vf 161)))))))),
  (3703787200, 190, (.tf xe2_119 (.fb .sub (.vf 188) (.vf 189)) (.fb .mul (.vf 188) (.vf 189)))),
  (2688938291, 191, (.tf xe2_120 (.fb .add (.vf 188) (.vf 189)) (.vf 190))),
  (2316162136, 192, (.tf xe2_101 xe2_122 (.vf 191))),
  (1135063226, 193, (.tf xe2_124 (.vf 131) (.tf xe2_125 (.vf 161) (.vf 192)))),
  (3138067975, 194, (.tf xe2_127 (.vf 131) (.tf xe2_128 (.vf 161) (.vf 192)))),
  (846105433, 195, (.tf xe2_130 (.vf 131) (.tf xe2_131 (.vf 161) (.vf 192)))),
  (495832102, 196, (.tf xe2_105 xe2_37 (.tf xe2_106 xe2_39 (.tf xe2_107 xe2_41 (.tf xe2_108 xe2_9 (.tf xe2_109 (.vf 120) (.tf xe2_110 (.vf 150) (.vf 180)))))))),
  (3052477538, 197, (.tf xe2_105 xe2_42 (.tf xe2_106 xe2_43 (.tf xe2_107 xe2_44 (.tf xe2_108 xe2_9 (.tf xe2_109 (.vf 119) (.tf xe2_110 (.vf 149) (.vf 179)))))))),
  (2054296539, 198, (.tf xe2_112 xe2_37 (.tf xe2_113 xe2_39 (.tf xe2_114 xe2_41 (.tf xe2_115 xe2_9 (.tf xe2_116 (.vf 120) (.tf xe2_117 (.vf 150) (.vf 180)))))))),
  (315974684, 199, (.tf xe2_112 xe2_42 (.tf xe2_113 xe2_43 (.tf xe2_114 xe2_44 (.tf xe2_115 xe2_9 (.tf xe2_116 (.vf 119) (.tf xe2_117 (.vf 149) (.vf 179)))))))),
  (1011079766, 200, (.af 20 0 (.cf (.vf 196) (.cf (.vf 197) (.cf (.vf 198) (.cf (.vf 199) .n0)))))),
  (1012079769, 201, (.af 20 1 (.cf (.vf 196) (.cf (.vf 197) (.cf (.vf 198) (.cf (.vf 199) .n0)))))),
  (289700972, 202, (.af 21 0 (.cf (.vf 196) (.cf (.vf 197) (.cf (.vf 198) (.cf (.vf 199) .n0)))))),
  (290700975, 203, (.af 21 1 (.cf (.vf 196) (.cf (.vf 197) (.cf (.vf 198) (.cf (.vf 199) .n0)))))),
  (3863289469, 204, (.af 22 0 (.cf (.vf 196) (.cf (.vf 197) (.cf (.vf 198) (.cf (.vf 199) .n0)))))),
  (3864289472, 205, (.af 22 1 (.cf (.vf 196) (.cf (.vf 197) (.cf (.vf 198) (.cf (.vf 199) .n0)))))),
  (1884003520, 206, (.tf xe2_119 (.vf 203) (.vf 205))),
  (1883003516, 207, (.tf xe2_119 (.vf 202) (.vf 204))),
  (3324761103, 208, (.tf xe2_120 (.vf 201) (.vf 206))),
  (3323761101, 209, (.tf xe2_120 (.vf 200) (.vf 207))),
  (2316162153, 210, (.tf xe2_101 xe2_122 (.vf 208))),
  (2316162154, 211, (.tf xe2_101 xe2_122 (.vf 209))),
  (1173063359, 212, (.tf xe2_124 (.vf 150) (.tf xe2_125 (.vf 180) (.vf 211)))),
  (1171063352, 213, (.tf xe2_124 (.vf 149) (.tf xe2_125 (.vf 179) (.vf 210)))),
  (3176068108, 214, (.tf xe2_127 (.vf 150) (.tf xe2_128 (.vf 180) (.vf 211)))),
  (3174068101, 215, (.tf xe2_127 (.vf 149) (.tf xe2_128 (.vf 179) (.vf 210)))),
  (884105566, 216, (.tf xe2_130 (.vf 150) (.tf xe2_131 (.vf 180) (.vf 211)))),
  (882105559, 217, (.tf xe2_130 (.vf 149) (.tf xe2_131 (.vf 179) (.vf 210)))),
  (3839114673, 218, (.tf xe2_132 xe2_134 (.vf 187))),
  (3604869099, 219, (.tf xe2_136 xe2_3 (.tf xe2_137 xe2_5 (.tf xe2_138 xe2_7 (.tf xe2_139 xe2_9 (.tf xe2_140 (.vf 105) (.tf xe2_141 (.vf 131) (.tf xe2_142 (.vf 161) (.vf 192))))))))),
  (412282436, 220, (.tf xe2_144 xe2_3 (.tf xe2_145 xe2_5 (.tf xe2_146 xe2_7 (.tf xe2_147 xe2_9 (.tf xe2_148 (.vf 105) (.tf xe2_149 (.vf 131) (.tf xe2_150 (.vf 161) (.vf 192))))))))),
  (3527722319, 221, (.tf xe2_152 (.fb .sub (.vf 219) (.vf 220)) (.fb .mul (.vf 219) (.vf 220)))),
  (2481873317, 222, (.tf xe2_153 (.fb .add (.vf 219) (.vf 220)) (.vf 221))),
  (2940748416, 223, (.tf xe2_132 xe2_155 (.vf 222))),
  (1601373519, 224, (.tf xe2_157 (.vf 161) (.tf xe2_158 (.vf 192) (.vf 223)))),
  (3604378268, 225, (.tf xe2_160 (.vf 161) (.tf xe2_161 (.vf 192) (.vf 223)))),
  (1312415726, 226, (.tf xe2_163 (.vf 161) (.tf xe2_164 (.vf 192) (.vf 223)))),
  (2561868564, 227, (.tf xe2_136 xe2_37 (.tf xe2_137 xe2_39 (.tf xe2_138 xe2_41 (.tf xe2_139 xe2_9 (.tf xe2_140 (.vf 120) (.tf xe2_141 (.vf 150) (.tf xe2_142 (.vf 180) (.vf 211))))))))),
  (822546706, 228, (.tf xe2_136 xe2_42 (.tf xe2_137 xe2_43 (.tf xe2_138 xe2_44 (.tf xe2_139 xe2_9 (.tf xe2_140 (.vf 119) (.tf xe2_141 (.vf 149) (.tf xe2_142 (.vf 179) (.vf 210))))))))),
  (3664249192, 229, (.tf xe2_144 xe2_37 (.tf xe2_145 xe2_39 (.tf xe2_146 xe2_41 (.tf xe2_147 xe2_9 (.tf xe2_148 (.vf 120) (.tf xe2_149 (.vf 150) (.tf xe2_150 (.vf 180) (.vf 211))))))))),
  (1924927334, 230, (.tf xe2_144 xe2_42 (.tf xe2_145 xe2_43 (.tf xe2_146 xe2_44 (.tf xe2_147 xe2_9 (.tf xe2_148 (.vf 119) (.tf xe2_149 (.vf 149) (.tf xe2_150 (.vf 179) (.vf 210))))))))),
  (1135080138, 231, (.af 20 0 (.cf (.vf 227) (.cf (.vf 228) (.cf (.vf 229) (.cf (.vf 230) .n0)))))),
  (1136080141, 232, (.af 20 1 (.cf (.vf 227) (.cf (.vf 228) (.cf (.vf 229) (.cf (.vf 230) .n0)))))),
  (413701344, 233, (.af 21 0 (.cf (.vf 227) (.cf (.vf 228) (.cf (.vf 229) (.cf (.vf 230) .n0)))))),
  (414701347, 234, (.af 21 1 (.cf (.vf 227) (.cf (.vf 228) (.cf (.vf 229) (.cf (.vf 230) .n0)))))),
  (3987289841, 235, (.af 22 0 (.cf (.vf 227) (.cf (.vf 228) (.cf (.vf 229) (.cf (.vf 230) .n0)))))),
  (3988289844, 236, (.af 22 1 (.cf (.vf 227) (.cf (.vf 228) (.cf (.vf 229) (.cf (.vf 230) .n0)))))),
  (2564844705, 237, (.tf xe2_152 (.vf 234) (.vf 236))),
  (2563844701, 238, (.tf xe2_152 (.vf 233) (.vf 235))),
  (4005602288, 239, (.tf xe2_153 (.vf 232) (.vf 237))),
  (4004602286, 240, (.tf xe2_153 (.vf 231) (.vf 238))),
  (2940748433, 241, (.tf xe2_132 xe2_155 (.vf 239))),
  (2940748434, 242, (.tf xe2_132 xe2_155 (.vf 240))),
  (1639373652, 243, (.tf xe2_157 (.vf 180) (.tf xe2_158 (.vf 211) (.vf 242)))),
  (1637373645, 244, (.tf xe2_157 (.vf 179) (.tf xe2_158 (.vf 210) (.vf 241)))),
  (3642378401, 245, (.tf xe2_160 (.vf 180) (.tf xe2_161 (.vf 211) (.vf 242)))),
  (3640378394, 246, (.tf xe2_160 (.vf 179) (.tf xe2_161 (.vf 210) (.vf 241)))),
  (1350415859, 247, (.tf xe2_163 (.vf 180) (.tf xe2_164 (.vf 211) (.vf 242)))),
  (1348415852, 248, (.tf xe2_163 (.vf 179) (.tf xe2_164 (.vf 210) (.vf 241)))),
  (3374117668, 249, (.tf xe2_165 xe2_167 (.tf xe2_132 xe2_154 (.tf xe2_101 xe2_121 (.tf xe2_72 xe2_90 (.tf xe2_45 xe2_61 (.tf xe2_0 xe2_21 (.fb .quo (.i2f xe2_8) (.lf 4616189618054758400))))))))),
  (3600969388, 250, (.tf xe2_165 xe2_168 (.vf 218))),
  (3231051595, 251, (.tf xe2_170 xe2_3 (.tf xe2_171 xe2_5 (.tf xe2_172 xe2_7 (.tf xe2_173 xe2_9 (.tf xe2_174 (.vf 105) (.tf xe2_175 (.vf 131) (.tf xe2_176 (.vf 161) (.tf xe2_177 (.vf 192) (.vf 223)))))))))),
  (3877348414, 252, (.tf xe2_179 xe2_3 (.tf xe2_180 xe2_5 (.tf xe2_181 xe2_7 (.tf xe2_182 xe2_9 (.tf xe2_183 (.vf 105) (.tf xe2_184 (.vf 131) (.tf xe2_185 (.vf 161) (.tf xe2_186 (.vf 192) (.vf 223)))))))))),
  (2632278651, 253, (.tf xe2_188 (.fb .sub (.vf 251) (.vf 252)) (.fb .mul (.vf 251) (.vf 252)))),
  (1554429553, 254, (.tf xe2_189 (.fb .add (.vf 251) (.vf 252)) (.vf 253))),
  (3565334697, 255, (.tf xe2_165 xe2_190 (.vf 254))),
  (2068683816, 256, (.tf xe2_192 (.vf 192) (.tf xe2_193 (.vf 223) (.vf 255)))),
  (4071688565, 257, (.tf xe2_195 (.vf 192) (.tf xe2_196 (.vf 223) (.vf 255)))),
  (1779726023, 258, (.tf xe2_198 (.vf 192) (.tf xe2_199 (.vf 223) (.vf 255)))),
  (2207051117, 259, (.tf xe2_170 xe2_37 (.tf xe2_171 xe2_39 (.tf xe2_172 xe2_41 (.tf xe2_173 xe2_9 (.tf xe2_174 (.vf 120) (.tf xe2_175 (.vf 150) (.tf xe2_176 (.vf 180) (.tf xe2_177 (.vf 211) (.vf 242)))))))))),
  (466729256, 260, (.tf xe2_170 xe2_42 (.tf xe2_171 xe2_43 (.tf xe2_172 xe2_44 (.tf xe2_173 xe2_9 (.tf xe2_174 (.vf 119) (.tf xe2_175 (.vf 149) (.tf xe2_176 (.vf 179) (.tf xe2_177 (.vf 210) (.vf 241)))))))))),
  (2853347936, 261, (.tf xe2_179 xe2_37 (.tf xe2_180 xe2_39 (.tf xe2_181 xe2_41 (.tf xe2_182 xe2_9 (.tf xe2_183 (.vf 120) (.tf xe2_184 (.vf 150) (.tf xe2_185 (.vf 180) (.tf xe2_186 (.vf 211) (.vf 242)))))))))),
  (1113026075, 262, (.tf xe2_179 xe2_42 (.tf xe2_180 xe2_43 (.tf xe2_181 xe2_44 (.tf xe2_182 xe2_9 (.tf xe2_183 (.vf 119) (.tf xe2_184 (.vf 149) (.tf xe2_185 (.vf 179) (.tf xe2_186 (.vf 210) (.vf 241)))))))))),
  (1263080522, 263, (.af 20 0 (.cf (.vf 259) (.cf (.vf 260) (.cf (.vf 261) (.cf (.vf 262) .n0)))))),
  (1264080525, 264, (.af 20 1 (.cf (.vf 259) (.cf (.vf 260) (.cf (.vf 261) (.cf (.vf 262) .n0)))))),
  (541701728, 265, (.af 21 0 (.cf (.vf 259) (.cf (.vf 260) (.cf (.vf 261) (.cf (.vf 262) .n0)))))),
  (542701731, 266, (.af 21 1 (.cf (.vf 259) (.cf (.vf 260) (.cf (.vf 261) (.cf (.vf 262) .n0)))))),
  (4115290225, 267, (.af 22 0 (.cf (.vf 259) (.cf (.vf 260) (.cf (.vf 261) (.cf (.vf 262) .n0)))))),
  (4116290228, 268, (.af 22 1 (.cf (.vf 259) (.cf (.vf 260) (.cf (.vf 261) (.cf (.vf 262) .n0)))))),
  (3246685894, 269, (.tf xe2_188 (.vf 266) (.vf 268))),
  (3245685890, 270, (.tf xe2_188 (.vf 265) (.vf 267))),
  (392476186, 271, (.tf xe2_189 (.vf 264) (.vf 269))),
  (391476184, 272, (.tf xe2_189 (.vf 263) (.vf 270))),
  (3565334714, 273, (.tf xe2_165 xe2_190 (.vf 271))),
  (3565334715, 274, (.tf xe2_165 xe2_190 (.vf 272))),
  (2106683949, 275, (.tf xe2_192 (.vf 211) (.tf xe2_193 (.vf 242) (.vf 274)))),
  (2104683942, 276, (.tf xe2_192 (.vf 210) (.tf xe2_193 (.vf 241) (.vf 273)))),
  (4109688698, 277, (.tf xe2_195 (.vf 211) (.tf xe2_196 (.vf 242) (.vf 274)))),
  (4107688691, 278, (.tf xe2_195 (.vf 210) (.tf xe2_196 (.vf 241) (.vf 273)))),
  (1817726156, 279, (.tf xe2_198 (.vf 211) (.tf xe2_199 (.vf 242) (.vf 274)))),
  (1815726149, 280, (.tf xe2_198 (.vf 210) (.tf xe2_199 (.vf 241) (.vf 273)))),
  (3639493352, 281, (.tf xe2_200 xe2_202 (.vf 249))),
  (3362824104, 282, (.tf xe2_200 xe2_203 (.vf 250))),
  (436380183, 283, (.tf xe2_205 xe2_3 (.tf xe2_206 xe2_5 (.tf xe2_207 xe2_7 (.tf xe2_208 xe2_9 (.tf xe2_209 (.vf 105) (.tf xe2_210 (.vf 131) (.tf xe2_211 (.vf 161) (.tf xe2_212 (.vf 192) (.tf xe2_213 (.vf 223) (.vf 255))))))))))),
  (626593193, 284, (.tf xe2_215 xe2_3 (.tf xe2_216 xe2_5 (.tf xe2_217 xe2_7 (.tf xe2_218 xe2_9 (.tf xe2_219 (.vf 105) (.tf xe2_220 (.vf 131) (.tf xe2_221 (.vf 161) (.tf xe2_222 (.vf 192) (.tf xe2_223 (.vf 223) (.vf 255))))))))))),
  (1736834983, 285, (.tf xe2_225 (.fb .sub (.vf 283) (.vf 284)) (.fb .mul (.vf 283) (.vf 284)))),
  (626985789, 286, (.tf xe2_226 (.fb .add (.vf 283) (.vf 284)) (.vf 285))),
  (4189920978, 287, (.tf xe2_200 xe2_227 (.vf 286))),
  (2536994116, 288, (.tf xe2_229 (.vf 223) (.tf xe2_230 (.vf 255) (.vf 287)))),
  (245031574, 289, (.tf xe2_232 (.vf 223) (.tf xe2_233 (.vf 255) (.vf 287)))),
  (2248036323, 290, (.tf xe2_235 (.vf 223) (.tf xe2_236 (.vf 255) (.vf 287)))),
  (3726347053, 291, (.tf xe2_205 xe2_37 (.tf xe2_206 xe2_39 (.tf xe2_207 xe2_41 (.tf xe2_208 xe2_9 (.tf xe2_209 (.vf 120) (.tf xe2_210 (.vf 150) (.tf xe2_211 (.vf 180) (.tf xe2_212 (.vf 211) (.tf xe2_213 (.vf 242) (.vf 274))))))))))),
  (1985025189, 292, (.tf xe2_205 xe2_42 (.tf xe2_206 xe2_43 (.tf xe2_207 xe2_44 (.tf xe2_208 xe2_9 (.tf xe2_209 (.vf 119) (.tf xe2_210 (.vf 149) (.tf xe2_211 (.vf 179) (.tf xe2_212 (.vf 210) (.tf xe2_213 (.vf 241) (.vf 273))))))))))),
  (3916560063, 293, (.tf xe2_215 xe2_37 (.tf xe2_216 xe2_39 (.tf xe2_217 xe2_41 (.tf xe2_218 xe2_9 (.tf xe2_219 (.vf 120) (.tf xe2_220 (.vf 150) (.tf xe2_221 (.vf 180) (.tf xe2_222 (.vf 211) (.tf xe2_223 (.vf 242) (.vf 274))))))))))),
  (2175238199, 294, (.tf xe2_215 xe2_42 (.tf xe2_216 xe2_43 (.tf xe2_217 xe2_44 (.tf xe2_218 xe2_9 (.tf xe2_219 (.vf 119) (.tf xe2_220 (.vf 149) (.tf xe2_221 (.vf 179) (.tf xe2_222 (.vf 210) (.tf xe2_223 (.vf 241) (.vf 273))))))))))),
  (1391080906, 295, (.af 20 0 (.cf (.vf 291) (.cf (.vf 292) (.cf (.vf 293) (.cf (.vf 294) .n0)))))),
  (1392080909, 296, (.af 20 1 (.cf (.vf 291) (.cf (.vf 292) (.cf (.vf 293) (.cf (.vf 294) .n0)))))),
  (669702112, 297, (.af 21 0 (.cf (.vf 291) (.cf (.vf 292) (.cf (.vf 293) (.cf (.vf 294) .n0)))))),
  (670702115, 298, (.af 21 1 (.cf (.vf 291) (.cf (.vf 292) (.cf (.vf 293) (.cf (.vf 294) .n0)))))),
  (4243290609, 299, (.af 22 0 (.cf (.vf 291) (.cf (.vf 292) (.cf (.vf 293) (.cf (.vf 294) .n0)))))),
  (4244290612, 300, (.af 22 1 (.cf (.vf 291) (.cf (.vf 292) (.cf (.vf 293) (.cf (.vf 294) .n0)))))),
  (3928527083, 301, (.tf xe2_225 (.vf 298) (.vf 300))),
  (3927527079, 302, (.tf xe2_225 (.vf 297) (.vf 299))),
  (1074317375, 303, (.tf xe2_226 (.vf 296) (.vf 301))),
  (1073317373, 304, (.tf xe2_226 (.vf 295) (.vf 302))),
  (4189920995, 305, (.tf xe2_200 xe2_227 (.vf 303))),
  (4189920996, 306, (.tf xe2_200 xe2_227 (.vf 304))),
  (2574994249, 307, (.tf xe2_229 (.vf 242) (.tf xe2_230 (.vf 274) (.vf 306)))),
  (2572994242, 308, (.tf xe2_229 (.vf 241) (.tf xe2_230 (.vf 273) (.vf 305)))),
  (283031707, 309, (.tf xe2_232 (.vf 242) (.tf xe2_233 (.vf 274) (.vf 306)))),
  (281031700, 310, (.tf xe2_232 (.vf 241) (.tf xe2_233 (.vf 273) (.vf 305)))),
  (2286036456, 311, (.tf xe2_235 (.vf 242) (.tf xe2_236 (.vf 274) (.vf 306)))),
  (2284036449, 312, (.tf xe2_235 (.vf 241) (.tf xe2_236 (.vf 273) (.vf 305)))),
  (2948164213, 313, (.tf xe2_237 xe2_239 (.vf 281))),
  (3124678820, 314, (.tf xe2_237 xe2_240 (.vf 282))),
  (3811789447, 315, (.tf xe2_242 xe2_3 (.tf xe2_243 xe2_5 (.tf xe2_244 xe2_7 (.tf xe2_245 xe2_9 (.tf xe2_246 (.vf 105) (.tf xe2_247 (.vf 131) (.tf xe2_248 (.vf 161) (.tf xe2_249 (.vf 192) (.tf xe2_250 (.vf 223) (.tf xe2_251 (.vf 255) (.vf 287)))))))))))),
  (3545918648, 316, (.tf xe2_253 xe2_3 (.tf xe2_254 xe2_5 (.tf xe2_255 xe2_7 (.tf xe2_256 xe2_9 (.tf xe2_257 (.vf 105) (.tf xe2_258 (.vf 131) (.tf xe2_259 (.vf 161) (.tf xe2_260 (.vf 192) (.tf xe2_261 (.vf 223) (.tf xe2_262 (.vf 255) (.vf 287)))))))))))),
  (841391315, 317, (.tf xe2_264 (.fb .sub (.vf 315) (.vf 316)) (.fb .mul (.vf 315) (.vf 316)))),
  (3994509316, 318, (.tf xe2_265 (.fb .add (.vf 315) (.vf 316)) (.vf 317))),
  (519539968, 319, (.tf xe2_237 xe2_266 (.vf 318))),
  (3006304419, 320, (.tf xe2_268 (.vf 255) (.tf xe2_269 (.vf 287) (.vf 319)))),
  (714341877, 321, (.tf xe2_271 (.vf 255) (.tf xe2_272 (.vf 287) (.vf 319)))),
  (2717346626, 322, (.tf xe2_274 (.vf 255) (.tf xe2_275 (.vf 287) (.vf 319)))),
  (2825789083, 323, (.tf xe2_242 xe2_37 (.tf xe2_243 xe2_39 (.tf xe2_244 xe2_41 (.tf xe2_245 xe2_9 (.tf xe2_246 (.vf 120) (.tf xe2_247 (.vf 150) (.tf xe2_248 (.vf 180) (.tf xe2_249 (.vf 211) (.tf xe2_250 (.vf 242) (.tf xe2_251 (.vf 274) (.vf 306)))))))))))),
  (1083467216, 324, (.tf xe2_242 xe2_42 (.tf xe2_243 xe2_43 (.tf xe2_244 xe2_44 (.tf xe2_245 xe2_9 (.tf xe2_246 (.vf 119) (.tf xe2_247 (.vf 149) (.tf xe2_248 (.vf 179) (.tf xe2_249 (.vf 210) (.tf xe2_250 (.vf 241) (.tf xe2_251 (.vf 273) (.vf 305)))))))))))),
  (2559918284, 325, (.tf xe2_253 xe2_37 (.tf xe2_254 xe2_39 (.tf xe2_255 xe2_41 (.tf xe2_256 xe2_9 (.tf xe2_257 (.vf 120) (.tf xe2_258 (.vf 150) (.tf xe2_259 (.vf 180) (.tf xe2_260 (.vf 211) (.tf xe2_261 (.vf 242) (.tf xe2_262 (.vf 274) (.vf 306)))))))))))),
  (817596417, 326, (.tf xe2_253 xe2_42 (.tf xe2_254 xe2_43 (.tf xe2_255 xe2_44 (.tf xe2_256 xe2_9 (.tf xe2_257 (.vf 119) (.tf xe2_258 (.vf 149) (.tf xe2_259 (.vf 179) (.tf xe2_260 (.vf 210) (.tf xe2_261 (.vf 241) (.tf xe2_262 (.vf 273) (.vf 305)))))))))))),
  (1519081290, 327, (.af 20 0 (.cf (.vf 323) (.cf (.vf 324) (.cf (.vf 325) (.cf (.vf 326) .n0)))))),
  (1520081293, 328, (.af 20 1 (.cf (.vf 323) (.cf (.vf 324) (.cf (.vf 325) (.cf (.vf 326) .n0)))))),
  (797702496, 329, (.af 21 0 (.cf (.vf 323) (.cf (.vf 324) (.cf (.vf 325) (.cf (.vf 326) .n0)))))),
  (798702499, 330, (.af 21 1 (.cf (.vf 323) (.cf (.vf 324) (.cf (.vf 325) (.cf (.vf 326) .n0)))))),
  (76323702, 331, (.af 22 0 (.cf (.vf 323) (.cf (.vf 324) (.cf (.vf 325) (.cf (.vf 326) .n0)))))),
  (77323705, 332, (.af 22 1 (.cf (.vf 323) (.cf (.vf 324) (.cf (.vf 325) (.cf (.vf 326) .n0)))))),
  (315400981, 333, (.tf xe2_264 (.vf 330) (.vf 332))),
  (314400977, 334, (.tf xe2_264 (.vf 329) (.vf 331))),
  (1756158564, 335, (.tf xe2_265 (.vf 328) (.vf 333))),
  (1755158562, 336, (.tf xe2_265 (.vf 327) (.vf 334))),
  (519539985, 337, (.tf xe2_237 xe2_266 (.vf 335))),
  (519539986, 338, (.tf xe2_237 xe2_266 (.vf 336))),
  (3044304552, 339, (.tf xe2_268 (.vf 274) (.tf xe2_269 (.vf 306) (.vf 338)))),
  (3042304545, 340, (.tf xe2_268 (.vf 273) (.tf xe2_269 (.vf 305) (.vf 337)))),
  (752342010, 341, (.tf xe2_271 (.vf 274) (.tf xe2_272 (.vf 306) (.vf 338)))),
  (750342003, 342, (.tf xe2_271 (.vf 273) (.tf xe2_272 (.vf 305) (.vf 337)))),
  (2755346759, 343, (.tf xe2_274 (.vf 274) (.tf xe2_275 (.vf 306) (.vf 338)))),
  (2753346752, 344, (.tf xe2_274 (.vf 273) (.tf xe2_275 (.vf 305) (.vf 337))))]
set_option maxRecDepth 1000000 in
set_option maxHeartbeats 100000000 in
theorem xG2 : tabGood 100 xN2 = true := by kernel_rfl
end Go.Proofs.Ytilhcamdjehpnaa
