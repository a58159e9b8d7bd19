/-
  'TapeMore': what names stand for, where the first rest is 1.
-/
import Derived.Test.YticbgaflhiokgaaM3n
namespace Go.Proofs.Yticbgaflhiokgaa
open Go.RowKit Ex
def we1_0 : E := (.ic .eql (.ai 9 0 (.ci (.at 1 0) (.ci (.li 11) .n0))) (.li 0))
def we1_1 : E := (.ti we1_0 (.li 0) (.ai 9 0 (.ci (.ib .quo .i64 (.at 1 0) (.li 4)) (.ci (.li 3) .n0))))
def we1_2 : E := (.fb .quo (.i2f (.ib .sub .i64 (.ai 9 0 (.ci (.ti (.ic .lss (.li 0) (.vl 3)) (.at 3 0) (.li 0)) (.ci (.li 65) .n0))) (.li 32))) (.lf 4620693217682128896))
def we1_3 : E := (.fb .quo (.i2f (.ib .sub .i64 (.ai 9 0 (.ci (.ti (.ic .lss (.li 1) (.vl 3)) (.at 3 1) (.li 1)) (.ci (.li 65) .n0))) (.li 32))) (.lf 4620693217682128896))
def we1_4 : E := (.fb .quo (.i2f (.ib .sub .i64 (.ai 9 0 (.ci (.vi 0) (.ci (.li 17) .n0))) (.li 8))) (.lf 4616189618054758400))
def we1_5 : E := (.ti we1_0 (.li 0) (.ai 9 0 (.ci (.ib .quo .i64 (.at 1 0) (.li 40)) (.ci (.li 3) .n0))))
def we1_6 : E := (.ib .add .i64 (.li 2) (.ai 9 0 (.ci (.at 1 0) (.ci (.li 3) .n0))))
def we1_7 : E := (.ic .eql (.ai 9 0 (.ci (.at 1 1) (.ci (.li 11) .n0))) (.li 0))
def we1_8 : E := (.ti we1_7 (.li 0) (.ai 9 0 (.ci (.ib .quo .i64 (.at 1 1) (.li 4)) (.ci (.li 4) .n0))))
def we1_9 : E := (.ti we1_7 (.li 0) (.ai 9 0 (.ci (.ib .quo .i64 (.at 1 1) (.li 40)) (.ci (.li 4) .n0))))
def we1_10 : E := (.ib .add .i64 (.li 2) (.ai 9 0 (.ci (.at 1 1) (.ci (.li 3) .n0))))
def we1_11 : E := (.ic .eql (.ai 9 0 (.ci (.at 1 2) (.ci (.li 11) .n0))) (.li 0))
def we1_12 : E := (.ti we1_11 (.li 0) (.ai 9 0 (.ci (.ib .quo .i64 (.at 1 2) (.li 4)) (.ci (.li 5) .n0))))
def we1_13 : E := (.ti we1_11 (.li 0) (.ai 9 0 (.ci (.ib .quo .i64 (.at 1 2) (.li 40)) (.ci (.li 5) .n0))))
def we1_14 : E := (.ib .add .i64 (.li 2) (.ai 9 0 (.ci (.at 1 2) (.ci (.li 3) .n0))))
def we1_15 : E := (.ic .eql (.ai 9 0 (.ci (.at 1 3) (.ci (.li 11) .n0))) (.li 0))
def we1_16 : E := (.ti we1_15 (.li 0) (.ai 9 0 (.ci (.ib .quo .i64 (.at 1 3) (.li 4)) (.ci (.li 6) .n0))))
def we1_17 : E := (.ti we1_15 (.li 0) (.ai 9 0 (.ci (.ib .quo .i64 (.at 1 3) (.li 40)) (.ci (.li 6) .n0))))
def we1_18 : E := (.ib .add .i64 (.li 2) (.ai 9 0 (.ci (.at 1 3) (.ci (.li 3) .n0))))
def we1_19 : E := (.ic .eql (.ai 9 0 (.ci (.at 1 4) (.ci (.li 11) .n0))) (.li 0))
def we1_20 : E := (.ti we1_19 (.li 0) (.ai 9 0 (.ci (.ib .quo .i64 (.at 1 4) (.li 4)) (.ci (.li 7) .n0))))
def we1_21 : E := (.ti we1_19 (.li 0) (.ai 9 0 (.ci (.ib .quo .i64 (.at 1 4) (.li 40)) (.ci (.li 7) .n0))))
def we1_22 : E := (.ib .add .i64 (.li 2) (.ai 9 0 (.ci (.at 1 4) (.ci (.li 3) .n0))))
def we1_23 : E := (.ic .eql (.ai 9 0 (.ci (.at 1 5) (.ci (.li 11) .n0))) (.li 0))
def we1_24 : E := (.ti we1_23 (.li 0) (.ai 9 0 (.ci (.ib .quo .i64 (.at 1 5) (.li 4)) (.ci (.li 8) .n0))))
def we1_25 : E := (.ti we1_23 (.li 0) (.ai 9 0 (.ci (.ib .quo .i64 (.at 1 5) (.li 40)) (.ci (.li 8) .n0))))
def we1_26 : E := (.ib .add .i64 (.li 2) (.ai 9 0 (.ci (.at 1 5) (.ci (.li 3) .n0))))
def we1_27 : E := (.ic .eql (.ai 9 0 (.ci (.at 1 6) (.ci (.li 11) .n0))) (.li 0))
def we1_28 : E := (.ti we1_27 (.li 0) (.ai 9 0 (.ci (.ib .quo .i64 (.at 1 6) (.li 4)) (.ci (.li 9) .n0))))
def we1_29 : E := (.ti we1_27 (.li 0) (.ai 9 0 (.ci (.ib .quo .i64 (.at 1 6) (.li 40)) (.ci (.li 9) .n0))))
def we1_30 : E := (.ib .add .i64 (.li 2) (.ai 9 0 (.ci (.at 1 6) (.ci (.li 3) .n0))))
def we1_31 : E := (.ic .eql (.ai 9 0 (.ci (.at 1 7) (.ci (.li 11) .n0))) (.li 0))
def we1_32 : E := (.ti we1_31 (.li 0) (.ai 9 0 (.ci (.ib .quo .i64 (.at 1 7) (.li 4)) (.ci (.li 10) .n0))))
def we1_33 : E := (.ti we1_31 (.li 0) (.ai 9 0 (.ci (.ib .quo .i64 (.at 1 7) (.li 40)) (.ci (.li 10) .n0))))
def we1_34 : E := (.ib .add .i64 (.li 2) (.ai 9 0 (.ci (.at 1 7) (.ci (.li 3) .n0))))
def we1_35 : E := (.ib .quo .i64 (.vi 0) (.li 3))
def we1_36 : E := (.ai 9 0 (.ci (.ib .add .i64 we1_35 (.li 0)) (.ci (.li 3) .n0)))
def we1_37 : E := (.ib .sub .i64 (.ib .sub .i64 (.li 10) we1_36) (.li 8))
def we1_38 : E := (.ai 9 0 (.ci (.ib .add .i64 we1_35 (.li 1)) (.ci (.li 3) .n0)))
def we1_39 : E := (.ib .sub .i64 (.ib .sub .i64 (.li 10) we1_38) (.li 8))
def we1_40 : E := (.ib .sub .i64 (.ib .sub .i64 (.li 9) we1_36) (.li 7))
def we1_41 : E := (.ib .sub .i64 (.ib .sub .i64 (.li 9) we1_38) (.li 7))
def we1_42 : E := (.ib .sub .i64 (.ib .sub .i64 (.li 8) we1_36) (.li 6))
def we1_43 : E := (.ib .sub .i64 (.ib .sub .i64 (.li 8) we1_38) (.li 6))
def we1_44 : E := (.ib .sub .i64 (.ib .sub .i64 (.li 7) we1_36) (.li 5))
def we1_45 : E := (.ib .sub .i64 (.ib .sub .i64 (.li 7) we1_38) (.li 5))
def we1_46 : E := (.ib .sub .i64 (.ib .sub .i64 (.li 6) we1_36) (.li 4))
def we1_47 : E := (.ib .sub .i64 (.ib .sub .i64 (.li 6) we1_38) (.li 4))
def we1_48 : E := (.ib .sub .i64 (.ib .sub .i64 (.li 5) we1_36) (.li 3))
def we1_49 : E := (.ib .sub .i64 (.ib .sub .i64 (.li 5) we1_38) (.li 3))
def we1_50 : E := (.ib .sub .i64 (.ib .sub .i64 (.li 4) we1_36) (.li 2))
def we1_51 : E := (.ib .sub .i64 (.ib .sub .i64 (.li 4) we1_38) (.li 2))
def we1_52 : E := (.ib .sub .i64 (.ib .sub .i64 (.li 3) we1_36) (.li 1))
def we1_53 : E := (.ib .sub .i64 (.ib .sub .i64 (.li 3) we1_38) (.li 1))
def we1_54 : E := (.ib .sub .i64 (.li 2) we1_36)
def we1_55 : E := (.ib .sub .i64 (.li 2) we1_38)
def we1_56 : E := (.ai 9 0 (.ci (.vi 4) (.ci (.li 11) .n0)))
def we1_57 : E := (.ic .eql we1_56 (.li 0))
def we1_58 : E := (.ic .eql we1_56 (.li 1))
def we1_59 : E := (.ic .eql we1_56 (.li 2))
def we1_60 : E := (.ic .eql we1_56 (.li 3))
def we1_61 : E := (.ic .eql we1_56 (.li 4))
def we1_62 : E := (.ic .eql we1_56 (.li 5))
def we1_63 : E := (.ic .eql we1_56 (.li 6))
def we1_64 : E := (.ic .eql we1_56 (.li 7))
def we1_65 : E := (.ic .eql we1_56 (.li 8))
def we1_66 : E := (.ic .eql we1_56 (.li 9))
def we1_67 : E := (.ib .quo .i64 (.vi 4) (.li 9))
def we1_68 : E := (.ai 9 0 (.ci we1_67 (.ci (.li 11) .n0)))
def we1_69 : E := (.ic .eql we1_68 (.li 0))
def we1_70 : E := (.ic .eql we1_68 (.li 1))
def we1_71 : E := (.ic .eql we1_68 (.li 2))
def we1_72 : E := (.ic .eql we1_68 (.li 3))
def we1_73 : E := (.ic .eql we1_68 (.li 4))
def we1_74 : E := (.ic .eql we1_68 (.li 5))
def we1_75 : E := (.ic .eql we1_68 (.li 6))
def we1_76 : E := (.ic .eql we1_68 (.li 7))
def we1_77 : E := (.ic .eql we1_68 (.li 8))
def we1_78 : E := (.ic .eql we1_68 (.li 9))
def we1_79 : E := (.ai 9 0 (.ci (.vi 4) (.ci (.li 10) .n0)))
def we1_80 : E := (.ic .eql we1_79 (.li 0))
def we1_81 : E := (.ic .eql we1_79 (.li 1))
def we1_82 : E := (.ic .eql we1_79 (.li 2))
def we1_83 : E := (.ic .eql we1_79 (.li 3))
def we1_84 : E := (.ic .eql we1_79 (.li 4))
def we1_85 : E := (.ic .eql we1_79 (.li 5))
def we1_86 : E := (.ic .eql we1_79 (.li 6))
def we1_87 : E := (.ic .eql we1_79 (.li 7))
def we1_88 : E := (.ic .eql we1_79 (.li 8))
def we1_89 : E := (.ai 9 0 (.ci we1_67 (.ci (.li 10) .n0)))
def we1_90 : E := (.ic .eql we1_89 (.li 0))
def we1_91 : E := (.ic .eql we1_89 (.li 1))
def we1_92 : E := (.ic .eql we1_89 (.li 2))
def we1_93 : E := (.ic .eql we1_89 (.li 3))
def we1_94 : E := (.ic .eql we1_89 (.li 4))
def we1_95 : E := (.ic .eql we1_89 (.li 5))
def we1_96 : E := (.ic .eql we1_89 (.li 6))
def we1_97 : E := (.ic .eql we1_89 (.li 7))
def we1_98 : E := (.ic .eql we1_89 (.li 8))
def we1_99 : E := (.ai 9 0 (.ci we1_67 (.ci (.li 9) .n0)))
def we1_100 : E := (.ic .eql we1_99 (.li 0))
def we1_101 : E := (.ic .eql we1_99 (.li 1))
def we1_102 : E := (.ic .eql we1_99 (.li 2))
def we1_103 : E := (.ic .eql we1_99 (.li 3))
def we1_104 : E := (.ic .eql we1_99 (.li 4))
def we1_105 : E := (.ic .eql we1_99 (.li 5))
def we1_106 : E := (.ic .eql we1_99 (.li 6))
def we1_107 : E := (.ic .eql we1_99 (.li 7))
def we1_108 : E := (.ai 9 0 (.ci (.vi 4) (.ci (.li 8) .n0)))
def we1_109 : E := (.ic .eql we1_108 (.li 0))
def we1_110 : E := (.ic .eql we1_108 (.li 1))
def we1_111 : E := (.ic .eql we1_108 (.li 2))
def we1_112 : E := (.ic .eql we1_108 (.li 3))
def we1_113 : E := (.ic .eql we1_108 (.li 4))
def we1_114 : E := (.ic .eql we1_108 (.li 5))
def we1_115 : E := (.ic .eql we1_108 (.li 6))
def we1_116 : E := (.ai 9 0 (.ci we1_67 (.ci (.li 8) .n0)))
def we1_117 : E := (.ic .eql we1_116 (.li 0))
def we1_118 : E := (.ic .eql we1_116 (.li 1))
def we1_119 : E := (.ic .eql we1_116 (.li 2))
def we1_120 : E := (.ic .eql we1_116 (.li 3))
def we1_121 : E := (.ic .eql we1_116 (.li 4))
def we1_122 : E := (.ic .eql we1_116 (.li 5))
def we1_123 : E := (.ic .eql we1_116 (.li 6))
def we1_124 : E := (.ai 9 0 (.ci (.vi 4) (.ci (.li 7) .n0)))
def we1_125 : E := (.ic .eql we1_124 (.li 0))
def we1_126 : E := (.ic .eql we1_124 (.li 1))
def we1_127 : E := (.ic .eql we1_124 (.li 2))
def we1_128 : E := (.ic .eql we1_124 (.li 3))
def we1_129 : E := (.ic .eql we1_124 (.li 4))
def we1_130 : E := (.ic .eql we1_124 (.li 5))
def we1_131 : E := (.ai 9 0 (.ci we1_67 (.ci (.li 7) .n0)))
def we1_132 : E := (.ic .eql we1_131 (.li 0))
def we1_133 : E := (.ic .eql we1_131 (.li 1))
def we1_134 : E := (.ic .eql we1_131 (.li 2))
def we1_135 : E := (.ic .eql we1_131 (.li 3))
def we1_136 : E := (.ic .eql we1_131 (.li 4))
def we1_137 : E := (.ic .eql we1_131 (.li 5))
def we1_138 : E := (.ai 9 0 (.ci (.vi 4) (.ci (.li 6) .n0)))
def we1_139 : E := (.ic .eql we1_138 (.li 0))
def we1_140 : E := (.ic .eql we1_138 (.li 1))
def we1_141 : E := (.ic .eql we1_138 (.li 2))
def we1_142 : E := (.ic .eql we1_138 (.li 3))
def we1_143 : E := (.ic .eql we1_138 (.li 4))
def we1_144 : E := (.ai 9 0 (.ci we1_67 (.ci (.li 6) .n0)))
def we1_145 : E := (.ic .eql we1_144 (.li 0))
def we1_146 : E := (.ic .eql we1_144 (.li 1))
def we1_147 : E := (.ic .eql we1_144 (.li 2))
def we1_148 : E := (.ic .eql we1_144 (.li 3))
def we1_149 : E := (.ic .eql we1_144 (.li 4))
def we1_150 : E := (.ai 9 0 (.ci (.vi 4) (.ci (.li 5) .n0)))
def we1_151 : E := (.ic .eql we1_150 (.li 0))
def we1_152 : E := (.ic .eql we1_150 (.li 1))
def we1_153 : E := (.ic .eql we1_150 (.li 2))
def we1_154 : E := (.ic .eql we1_150 (.li 3))
def we1_155 : E := (.ai 9 0 (.ci we1_67 (.ci (.li 5) .n0)))
def we1_156 : E := (.ic .eql we1_155 (.li 0))
def we1_157 : E := (.ic .eql we1_155 (.li 1))
def we1_158 : E := (.ic .eql we1_155 (.li 2))
def we1_159 : E := (.ic .eql we1_155 (.li 3))
def we1_160 : E := (.ai 9 0 (.ci (.vi 4) (.ci (.li 4) .n0)))
def we1_161 : E := (.ic .eql we1_160 (.li 0))
def we1_162 : E := (.ic .eql we1_160 (.li 1))
def we1_163 : E := (.ic .eql we1_160 (.li 2))
def we1_164 : E := (.ai 9 0 (.ci we1_67 (.ci (.li 4) .n0)))
def we1_165 : E := (.ic .eql we1_164 (.li 0))
def we1_166 : E := (.ic .eql we1_164 (.li 1))
def we1_167 : E := (.ic .eql we1_164 (.li 2))
def we1_168 : E := (.ai 9 0 (.ci (.vi 4) (.ci (.li 3) .n0)))
def we1_169 : E := (.ai 9 0 (.ci we1_67 (.ci (.li 3) .n0)))
def we1_170 : E := (.ai 9 0 (.ci (.vi 4) (.ci (.li 12) .n0)))
def we1_171 : E := (.ic .eql we1_170 (.li 0))
def we1_172 : E := (.ic .eql we1_170 (.li 1))
def we1_173 : E := (.ic .eql we1_170 (.li 2))
def we1_174 : E := (.ic .eql we1_170 (.li 3))
def we1_175 : E := (.ic .eql we1_170 (.li 4))
def we1_176 : E := (.ic .eql we1_170 (.li 5))
def we1_177 : E := (.ic .eql we1_170 (.li 6))
def we1_178 : E := (.ic .eql we1_170 (.li 7))
def we1_179 : E := (.ic .eql we1_170 (.li 8))
def we1_180 : E := (.ic .eql we1_170 (.li 9))
def we1_181 : E := (.ic .eql we1_170 (.li 10))
def we1_182 : E := (.fb .mul (.vf 166) (.vf 167))
def we1_183 : E := (.ai 9 0 (.ci we1_67 (.ci (.li 12) .n0)))
def we1_184 : E := (.ic .eql we1_183 (.li 0))
def we1_185 : E := (.ic .eql we1_183 (.li 1))
def we1_186 : E := (.ic .eql we1_183 (.li 2))
def we1_187 : E := (.ic .eql we1_183 (.li 3))
def we1_188 : E := (.ic .eql we1_183 (.li 4))
def we1_189 : E := (.ic .eql we1_183 (.li 5))
def we1_190 : E := (.ic .eql we1_183 (.li 6))
def we1_191 : E := (.ic .eql we1_183 (.li 7))
def we1_192 : E := (.ic .eql we1_183 (.li 8))
def we1_193 : E := (.ic .eql we1_183 (.li 9))
def we1_194 : E := (.ic .eql we1_183 (.li 10))
def we1_195 : E := (.fb .mul (.vf 168) (.vf 169))
def we1_196 : E := (.fb .mul (.vf 172) (.vf 173))
def we1_197 : E := (.fb .mul (.vf 174) (.vf 175))
def we1_198 : E := (.fb .mul (.vf 176) (.vf 177))
def we1_199 : E := (.fb .mul (.vf 178) (.vf 179))
def we1_200 : E := (.fb .mul (.vf 180) (.vf 181))
def we1_201 : E := (.fb .mul (.vf 182) (.vf 183))
def we1_202 : E := (.ai 9 0 (.ci (.vi 4) (.ci (.li 13) .n0)))
def we1_203 : E := (.ic .eql we1_202 (.li 0))
def we1_204 : E := (.ic .eql we1_202 (.li 1))
def we1_205 : E := (.ic .eql we1_202 (.li 2))
def we1_206 : E := (.ic .eql we1_202 (.li 3))
def we1_207 : E := (.ic .eql we1_202 (.li 4))
def we1_208 : E := (.ic .eql we1_202 (.li 5))
def we1_209 : E := (.ic .eql we1_202 (.li 6))
def we1_210 : E := (.ic .eql we1_202 (.li 7))
def we1_211 : E := (.ic .eql we1_202 (.li 8))
def we1_212 : E := (.ic .eql we1_202 (.li 9))
def we1_213 : E := (.ic .eql we1_202 (.li 10))
def we1_214 : E := (.ic .eql we1_202 (.li 11))
def we1_215 : E := (.fb .mul (.vf 184) (.vf 185))
def we1_216 : E := (.ai 9 0 (.ci we1_67 (.ci (.li 13) .n0)))
def we1_217 : E := (.ic .eql we1_216 (.li 0))
def we1_218 : E := (.ic .eql we1_216 (.li 1))
def we1_219 : E := (.ic .eql we1_216 (.li 2))
def we1_220 : E := (.ic .eql we1_216 (.li 3))
def we1_221 : E := (.ic .eql we1_216 (.li 4))
def we1_222 : E := (.ic .eql we1_216 (.li 5))
def we1_223 : E := (.ic .eql we1_216 (.li 6))
def we1_224 : E := (.ic .eql we1_216 (.li 7))
def we1_225 : E := (.ic .eql we1_216 (.li 8))
def we1_226 : E := (.ic .eql we1_216 (.li 9))
def we1_227 : E := (.ic .eql we1_216 (.li 10))
def we1_228 : E := (.ic .eql we1_216 (.li 11))
def we1_229 : E := (.fb .mul (.vf 186) (.vf 187))
def we1_230 : E := (.fb .mul (.vf 105) (.vf 170))
def we1_231 : E := (.fb .mul (.vf 207) (.vf 208))
def we1_232 : E := (.fb .mul (.vf 105) (.vf 191))
def we1_233 : E := (.fb .mul (.vf 193) (.vf 194))
def we1_234 : E := (.fb .mul (.vf 195) (.vf 196))
def we1_235 : E := (.fb .mul (.vf 197) (.vf 198))
def we1_236 : E := (.fb .mul (.vf 199) (.vf 200))
def we1_237 : E := (.fb .mul (.vf 201) (.vf 202))
def we1_238 : E := (.ai 9 0 (.ci (.vi 4) (.ci (.li 14) .n0)))
def we1_239 : E := (.ic .eql we1_238 (.li 0))
def we1_240 : E := (.ic .eql we1_238 (.li 1))
def we1_241 : E := (.ic .eql we1_238 (.li 2))
def we1_242 : E := (.ic .eql we1_238 (.li 3))
def we1_243 : E := (.ic .eql we1_238 (.li 4))
def we1_244 : E := (.ic .eql we1_238 (.li 5))
def we1_245 : E := (.ic .eql we1_238 (.li 6))
def we1_246 : E := (.ic .eql we1_238 (.li 7))
def we1_247 : E := (.ic .eql we1_238 (.li 8))
def we1_248 : E := (.ic .eql we1_238 (.li 9))
def we1_249 : E := (.ic .eql we1_238 (.li 10))
def we1_250 : E := (.ic .eql we1_238 (.li 11))
def we1_251 : E := (.ic .eql we1_238 (.li 12))
def we1_252 : E := (.fb .mul (.vf 203) (.vf 204))
def we1_253 : E := (.ai 9 0 (.ci we1_67 (.ci (.li 14) .n0)))
def we1_254 : E := (.ic .eql we1_253 (.li 0))
def we1_255 : E := (.ic .eql we1_253 (.li 1))
def we1_256 : E := (.ic .eql we1_253 (.li 2))
def we1_257 : E := (.ic .eql we1_253 (.li 3))
def we1_258 : E := (.ic .eql we1_253 (.li 4))
def we1_259 : E := (.ic .eql we1_253 (.li 5))
def we1_260 : E := (.ic .eql we1_253 (.li 6))
def we1_261 : E := (.ic .eql we1_253 (.li 7))
def we1_262 : E := (.ic .eql we1_253 (.li 8))
def we1_263 : E := (.ic .eql we1_253 (.li 9))
def we1_264 : E := (.ic .eql we1_253 (.li 10))
def we1_265 : E := (.ic .eql we1_253 (.li 11))
def we1_266 : E := (.ic .eql we1_253 (.li 12))
def we1_267 : E := (.fb .mul (.vf 205) (.vf 206))
def we1_268 : E := (.fb .mul (.vf 111) (.vf 170))
def we1_269 : E := (.fb .mul (.vf 226) (.vf 227))
def we1_270 : E := (.fb .mul (.vf 228) (.vf 229))
def we1_271 : E := (.fb .mul (.vf 111) (.vf 191))
def we1_272 : E := (.fb .mul (.vf 232) (.vf 233))
def we1_273 : E := (.fb .mul (.vf 111) (.vf 213))
def we1_274 : E := (.fb .mul (.vf 214) (.vf 215))
def we1_275 : E := (.fb .mul (.vf 216) (.vf 217))
def we1_276 : E := (.fb .mul (.vf 218) (.vf 219))
def we1_277 : E := (.fb .mul (.vf 220) (.vf 221))
def we1_278 : E := (.ai 9 0 (.ci (.vi 4) (.ci (.li 15) .n0)))
def we1_279 : E := (.ic .eql we1_278 (.li 0))
def we1_280 : E := (.ic .eql we1_278 (.li 1))
def we1_281 : E := (.ic .eql we1_278 (.li 2))
def we1_282 : E := (.ic .eql we1_278 (.li 3))
def we1_283 : E := (.ic .eql we1_278 (.li 4))
def we1_284 : E := (.ic .eql we1_278 (.li 5))
def we1_285 : E := (.ic .eql we1_278 (.li 6))
def we1_286 : E := (.ic .eql we1_278 (.li 7))
def we1_287 : E := (.ic .eql we1_278 (.li 8))
def we1_288 : E := (.ic .eql we1_278 (.li 9))
def we1_289 : E := (.ic .eql we1_278 (.li 10))
def we1_290 : E := (.ic .eql we1_278 (.li 11))
def we1_291 : E := (.ic .eql we1_278 (.li 12))
def we1_292 : E := (.ic .eql we1_278 (.li 13))
def we1_293 : E := (.fb .mul (.vf 222) (.vf 223))
def we1_294 : E := (.ai 9 0 (.ci we1_67 (.ci (.li 15) .n0)))
def we1_295 : E := (.ic .eql we1_294 (.li 0))
def we1_296 : E := (.ic .eql we1_294 (.li 1))
def we1_297 : E := (.ic .eql we1_294 (.li 2))
def we1_298 : E := (.ic .eql we1_294 (.li 3))
def we1_299 : E := (.ic .eql we1_294 (.li 4))
def we1_300 : E := (.ic .eql we1_294 (.li 5))
def we1_301 : E := (.ic .eql we1_294 (.li 6))
def we1_302 : E := (.ic .eql we1_294 (.li 7))
def we1_303 : E := (.ic .eql we1_294 (.li 8))
def we1_304 : E := (.ic .eql we1_294 (.li 9))
def we1_305 : E := (.ic .eql we1_294 (.li 10))
def we1_306 : E := (.ic .eql we1_294 (.li 11))
def we1_307 : E := (.ic .eql we1_294 (.li 12))
def we1_308 : E := (.ic .eql we1_294 (.li 13))
def we1_309 : E := (.fb .mul (.vf 224) (.vf 225))
def we1_310 : E := (.fb .mul (.vf 117) (.vf 170))
def we1_311 : E := (.fb .mul (.vf 249) (.vf 250))
def we1_312 : E := (.fb .mul (.vf 251) (.vf 252))
def we1_313 : E := (.fb .mul (.vf 253) (.vf 254))
def we1_314 : E := (.fb .mul (.vf 117) (.vf 191))
def we1_315 : E := (.fb .mul (.vf 257) (.vf 258))
def we1_316 : E := (.fb .mul (.vf 259) (.vf 260))
def we1_317 : E := (.fb .mul (.vf 117) (.vf 213))
def we1_318 : E := (.fb .mul (.vf 263) (.vf 264))
def we1_319 : E := (.fb .mul (.vf 117) (.vf 238))
def we1_320 : E := (.fb .mul (.vf 239) (.vf 240))
def we1_321 : E := (.fb .mul (.vf 241) (.vf 242))
def we1_322 : E := (.fb .mul (.vf 243) (.vf 244))
def we1_323 : E := (.ai 9 0 (.ci (.vi 4) (.ci (.li 16) .n0)))
def we1_324 : E := (.ic .eql we1_323 (.li 0))
def we1_325 : E := (.ic .eql we1_323 (.li 1))
def we1_326 : E := (.ic .eql we1_323 (.li 2))
def we1_327 : E := (.ic .eql we1_323 (.li 3))
def we1_328 : E := (.ic .eql we1_323 (.li 4))
def we1_329 : E := (.ic .eql we1_323 (.li 5))
def we1_330 : E := (.ic .eql we1_323 (.li 6))
def we1_331 : E := (.ic .eql we1_323 (.li 7))
def we1_332 : E := (.ic .eql we1_323 (.li 8))
def we1_333 : E := (.ic .eql we1_323 (.li 9))
def we1_334 : E := (.ic .eql we1_323 (.li 10))
def we1_335 : E := (.ic .eql we1_323 (.li 11))
def we1_336 : E := (.ic .eql we1_323 (.li 12))
def we1_337 : E := (.ic .eql we1_323 (.li 13))
def we1_338 : E := (.ic .eql we1_323 (.li 14))
def we1_339 : E := (.fb .mul (.vf 245) (.vf 246))
def we1_340 : E := (.ai 9 0 (.ci we1_67 (.ci (.li 16) .n0)))
def we1_341 : E := (.ic .eql we1_340 (.li 0))
def we1_342 : E := (.ic .eql we1_340 (.li 1))
def we1_343 : E := (.ic .eql we1_340 (.li 2))
def we1_344 : E := (.ic .eql we1_340 (.li 3))
def we1_345 : E := (.ic .eql we1_340 (.li 4))
def we1_346 : E := (.ic .eql we1_340 (.li 5))
def we1_347 : E := (.ic .eql we1_340 (.li 6))
def we1_348 : E := (.ic .eql we1_340 (.li 7))
def we1_349 : E := (.ic .eql we1_340 (.li 8))
def we1_350 : E := (.ic .eql we1_340 (.li 9))
def we1_351 : E := (.ic .eql we1_340 (.li 10))
def we1_352 : E := (.ic .eql we1_340 (.li 11))
def we1_353 : E := (.ic .eql we1_340 (.li 12))
def we1_354 : E := (.ic .eql we1_340 (.li 13))
def we1_355 : E := (.ic .eql we1_340 (.li 14))
def we1_356 : E := (.fb .mul (.vf 247) (.vf 248))
def we1_357 : E := (.fb .mul (.vf 123) (.vf 170))
def we1_358 : E := (.fb .mul (.vf 278) (.vf 279))
def we1_359 : E := (.fb .mul (.vf 280) (.vf 281))
def we1_360 : E := (.fb .mul (.vf 282) (.vf 283))
def we1_361 : E := (.fb .mul (.vf 284) (.vf 285))
def we1_362 : E := (.fb .mul (.vf 123) (.vf 191))
def we1_363 : E := (.fb .mul (.vf 288) (.vf 289))
def we1_364 : E := (.fb .mul (.vf 290) (.vf 291))
def we1_365 : E := (.fb .mul (.vf 292) (.vf 293))
def we1_366 : E := (.fb .mul (.vf 123) (.vf 213))
def we1_367 : E := (.fb .mul (.vf 296) (.vf 297))
def we1_368 : E := (.fb .mul (.vf 298) (.vf 299))
def we1_369 : E := (.fb .mul we1_198 (.vf 238))
def we1_370 : E := (.fb .mul (.vf 302) (.vf 303))
def we1_371 : E := (.fb .mul we1_235 (.vf 269))
def we1_372 : E := (.fb .mul (.vf 270) (.vf 271))
def we1_373 : E := (.fb .mul (.vf 272) (.vf 273))
def we1_374 : E := (.ai 9 0 (.ci (.vi 4) (.ci (.li 17) .n0)))
def we1_375 : E := (.ic .eql we1_374 (.li 0))
def we1_376 : E := (.ic .eql we1_374 (.li 1))
def we1_377 : E := (.ic .eql we1_374 (.li 2))
def we1_378 : E := (.ic .eql we1_374 (.li 3))
def we1_379 : E := (.ic .eql we1_374 (.li 4))
def we1_380 : E := (.ic .eql we1_374 (.li 5))
def we1_381 : E := (.ic .eql we1_374 (.li 6))
def we1_382 : E := (.ic .eql we1_374 (.li 7))
def we1_383 : E := (.ic .eql we1_374 (.li 8))
def we1_384 : E := (.ic .eql we1_374 (.li 9))
def we1_385 : E := (.ic .eql we1_374 (.li 10))
def we1_386 : E := (.ic .eql we1_374 (.li 11))
def we1_387 : E := (.ic .eql we1_374 (.li 12))
def we1_388 : E := (.ic .eql we1_374 (.li 13))
def we1_389 : E := (.ic .eql we1_374 (.li 14))
def we1_390 : E := (.ic .eql we1_374 (.li 15))
def we1_391 : E := (.fb .mul (.vf 274) (.vf 275))
def we1_392 : E := (.ai 9 0 (.ci we1_67 (.ci (.li 17) .n0)))
def we1_393 : E := (.ic .eql we1_392 (.li 0))
def we1_394 : E := (.ic .eql we1_392 (.li 1))
def we1_395 : E := (.ic .eql we1_392 (.li 2))
def we1_396 : E := (.ic .eql we1_392 (.li 3))
def we1_397 : E := (.ic .eql we1_392 (.li 4))
def we1_398 : E := (.ic .eql we1_392 (.li 5))
def we1_399 : E := (.ic .eql we1_392 (.li 6))
def we1_400 : E := (.ic .eql we1_392 (.li 7))
def we1_401 : E := (.ic .eql we1_392 (.li 8))
def we1_402 : E := (.ic .eql we1_392 (.li 9))
def we1_403 : E := (.ic .eql we1_392 (.li 10))
def we1_404 : E := (.ic .eql we1_392 (.li 11))
def we1_405 : E := (.ic .eql we1_392 (.li 12))
def we1_406 : E := (.ic .eql we1_392 (.li 13))
def we1_407 : E := (.ic .eql we1_392 (.li 14))
def we1_408 : E := (.ic .eql we1_392 (.li 15))
def we1_409 : E := (.fb .mul (.vf 276) (.vf 277))
def we1_410 : E := (.fb .mul (.vf 129) (.vf 170))
def we1_411 : E := (.fb .mul (.vf 315) (.vf 316))
def we1_412 : E := (.fb .mul (.vf 317) (.vf 318))
def we1_413 : E := (.fb .mul (.vf 319) (.vf 320))
def we1_414 : E := (.fb .mul (.vf 321) (.vf 322))
def we1_415 : E := (.fb .mul (.vf 323) (.vf 324))
def we1_416 : E := (.fb .mul (.vf 129) (.vf 191))
def we1_417 : E := (.fb .mul (.vf 327) (.vf 328))
def we1_418 : E := (.fb .mul (.vf 329) (.vf 330))
def we1_419 : E := (.fb .mul (.vf 331) (.vf 332))
def we1_420 : E := (.fb .mul (.vf 333) (.vf 334))
def we1_421 : E := (.fb .mul we1_197 (.vf 213))
def we1_422 : E := (.fb .mul (.vf 337) (.vf 338))
def we1_423 : E := (.fb .mul (.vf 339) (.vf 340))
def we1_424 : E := (.fb .mul (.vf 341) (.vf 342))
def we1_425 : E := (.fb .mul we1_234 (.vf 238))
def we1_426 : E := (.fb .mul (.vf 345) (.vf 346))
def we1_427 : E := (.fb .mul (.vf 347) (.vf 348))
def we1_428 : E := (.fb .mul we1_275 (.vf 269))
def we1_429 : E := (.fb .mul (.vf 351) (.vf 352))
def we1_430 : E := (.fb .mul we1_321 (.vf 308))
def we1_431 : E := (.fb .mul (.vf 309) (.vf 310))
def we1_432 : E := (.ai 9 0 (.ci (.vi 4) (.ci (.li 18) .n0)))
def we1_433 : E := (.fb .mul (.vf 311) (.vf 312))
def we1_434 : E := (.ai 9 0 (.ci we1_67 (.ci (.li 18) .n0)))
def we1_435 : E := (.fb .mul (.vf 313) (.vf 314))
def we1_436 : E := (.fb .mul (.vf 135) (.vf 170))
def we1_437 : E := (.fb .mul (.vf 362) (.vf 363))
def we1_438 : E := (.fb .mul (.vf 364) (.vf 365))
def we1_439 : E := (.fb .mul (.vf 366) (.vf 367))
def we1_440 : E := (.fb .mul (.vf 368) (.vf 369))
def we1_441 : E := (.fb .mul (.vf 370) (.vf 371))
def we1_442 : E := (.fb .mul (.vf 372) (.vf 373))
def we1_443 : E := (.fb .mul we1_196 (.vf 191))
def we1_444 : E := (.fb .mul (.vf 376) (.vf 377))
def we1_445 : E := (.fb .mul (.vf 378) (.vf 379))
def we1_446 : E := (.fb .mul (.vf 380) (.vf 381))
def we1_447 : E := (.fb .mul (.vf 382) (.vf 383))
def we1_448 : E := (.fb .mul (.vf 384) (.vf 385))
def we1_449 : E := (.fb .mul we1_233 (.vf 213))
def we1_450 : E := (.fb .mul (.vf 388) (.vf 389))
def we1_451 : E := (.fb .mul (.vf 390) (.vf 391))
def we1_452 : E := (.fb .mul (.vf 392) (.vf 393))
def we1_453 : E := (.fb .mul (.vf 394) (.vf 395))
def we1_454 : E := (.fb .mul we1_274 (.vf 238))
def we1_455 : E := (.fb .mul (.vf 398) (.vf 399))
def we1_456 : E := (.fb .mul (.vf 400) (.vf 401))
def we1_457 : E := (.fb .mul (.vf 402) (.vf 403))
def we1_458 : E := (.fb .mul we1_320 (.vf 269))
def we1_459 : E := (.fb .mul (.vf 406) (.vf 407))
def we1_460 : E := (.fb .mul (.vf 408) (.vf 409))
def we1_461 : E := (.fb .mul we1_372 (.vf 308))
def we1_462 : E := (.fb .mul (.vf 412) (.vf 413))
def we1_463 : E := (.fb .mul we1_431 (.vf 357))
def wN1 : Nms := [(2631736761, 100, (.tf (.ic .eql we1_1 (.li 0)) we1_2 (.tf (.ic .eql we1_1 (.li 1)) we1_3 we1_4))),
  (1719569143, 101, (.tf (.ic .eql we1_5 (.li 0)) we1_2 (.tf (.ic .eql we1_5 (.li 1)) we1_3 we1_4))),
  (635087908, 102, (.tf (.ic .eql we1_6 (.li 3)) (.fb .sub (.vf 100) (.vf 101)) (.fb .mul (.vf 100) (.vf 101)))),
  (4003206554, 103, (.tf (.ic .eql we1_6 (.li 2)) (.fb .add (.vf 100) (.vf 101)) (.vf 102))),
  (3999772632, 104, (.tf (.ic .eql (.ai 9 0 (.ci (.at 1 0) (.ci (.li 7) .n0))) (.li 0)) (.fb .quo (.vf 100) (.vf 101)) (.vf 103))),
  (1218405719, 105, (.tf we1_0 (.tf we1_0 (.fb .quo (.i2f (.ib .sub .i64 (.ai 9 0 (.ci (.ib .quo .i64 (.at 1 0) (.li 11)) (.ci (.li 33) .n0))) (.li 16))) (.lf 4620693217682128896)) (.lf 0)) (.tf (.vb 2) (.vf 104) (.vf 103)))),
  (3399051379, 106, (.tf (.ic .eql we1_8 (.li 0)) we1_2 (.tf (.ic .eql we1_8 (.li 1)) we1_3 (.tf (.ic .eql we1_8 (.li 2)) we1_4 (.vf 105))))),
  (2030799952, 107, (.tf (.ic .eql we1_9 (.li 0)) we1_2 (.tf (.ic .eql we1_9 (.li 1)) we1_3 (.tf (.ic .eql we1_9 (.li 2)) we1_4 (.vf 105))))),
  (1263623538, 108, (.tf (.ic .eql we1_10 (.li 3)) (.fb .sub (.vf 106) (.vf 107)) (.fb .mul (.vf 106) (.vf 107)))),
  (330774875, 109, (.tf (.ic .eql we1_10 (.li 2)) (.fb .add (.vf 106) (.vf 107)) (.vf 108))),
  (327340953, 110, (.tf (.ic .eql (.ai 9 0 (.ci (.at 1 1) (.ci (.li 7) .n0))) (.li 0)) (.fb .quo (.vf 106) (.vf 107)) (.vf 109))),
  (533076572, 111, (.tf we1_7 (.tf we1_7 (.fb .quo (.i2f (.ib .sub .i64 (.ai 9 0 (.ci (.ib .quo .i64 (.at 1 1) (.li 11)) (.ci (.li 33) .n0))) (.li 16))) (.lf 4620693217682128896)) (.lf 0)) (.tf (.vb 2) (.vf 110) (.vf 109)))),
  (2351484686, 112, (.tf (.ic .eql we1_12 (.li 0)) we1_2 (.tf (.ic .eql we1_12 (.li 1)) we1_3 (.tf (.ic .eql we1_12 (.li 2)) we1_4 (.tf (.ic .eql we1_12 (.li 3)) (.vf 105) (.vf 111)))))),
  (527149450, 113, (.tf (.ic .eql we1_13 (.li 0)) we1_2 (.tf (.ic .eql we1_13 (.li 1)) we1_3 (.tf (.ic .eql we1_13 (.li 2)) we1_4 (.tf (.ic .eql we1_13 (.li 3)) (.vf 105) (.vf 111)))))),
  (1892159168, 114, (.tf (.ic .eql we1_14 (.li 3)) (.fb .sub (.vf 112) (.vf 113)) (.fb .mul (.vf 112) (.vf 113)))),
  (953310487, 115, (.tf (.ic .eql we1_14 (.li 2)) (.fb .add (.vf 112) (.vf 113)) (.vf 114))),
  (949876565, 116, (.tf (.ic .eql (.ai 9 0 (.ci (.at 1 2) (.ci (.li 7) .n0))) (.li 0)) (.fb .quo (.vf 112) (.vf 113)) (.vf 115))),
  (4142714716, 117, (.tf we1_11 (.tf we1_11 (.fb .quo (.i2f (.ib .sub .i64 (.ai 9 0 (.ci (.ib .quo .i64 (.at 1 2) (.li 11)) (.ci (.li 33) .n0))) (.li 16))) (.lf 4620693217682128896)) (.lf 0)) (.tf (.vb 2) (.vf 116) (.vf 115)))),
  (3153031300, 118, (.tf (.ic .eql we1_16 (.li 0)) we1_2 (.tf (.ic .eql we1_16 (.li 1)) we1_3 (.tf (.ic .eql we1_16 (.li 2)) we1_4 (.tf (.ic .eql we1_16 (.li 3)) (.vf 105) (.tf (.ic .eql we1_16 (.li 4)) (.vf 111) (.vf 117))))))),
  (872612255, 119, (.tf (.ic .eql we1_17 (.li 0)) we1_2 (.tf (.ic .eql we1_17 (.li 1)) we1_3 (.tf (.ic .eql we1_17 (.li 2)) we1_4 (.tf (.ic .eql we1_17 (.li 3)) (.vf 105) (.tf (.ic .eql we1_17 (.li 4)) (.vf 111) (.vf 117))))))),
  (2520694798, 120, (.tf (.ic .eql we1_18 (.li 3)) (.fb .sub (.vf 118) (.vf 119)) (.fb .mul (.vf 118) (.vf 119)))),
  (1575846099, 121, (.tf (.ic .eql we1_18 (.li 2)) (.fb .add (.vf 118) (.vf 119)) (.vf 120))),
  (1572412177, 122, (.tf (.ic .eql (.ai 9 0 (.ci (.at 1 3) (.ci (.li 7) .n0))) (.li 0)) (.fb .quo (.vf 118) (.vf 119)) (.vf 121))),
  (3457385569, 123, (.tf we1_15 (.tf we1_15 (.fb .quo (.i2f (.ib .sub .i64 (.ai 9 0 (.ci (.ib .quo .i64 (.at 1 3) (.li 11)) (.ci (.li 33) .n0))) (.li 16))) (.lf 4620693217682128896)) (.lf 0)) (.tf (.vb 2) (.vf 122) (.vf 121)))),
  (1508723930, 124, (.tf (.ic .eql we1_20 (.li 0)) we1_2 (.tf (.ic .eql we1_20 (.li 1)) we1_3 (.tf (.ic .eql we1_20 (.li 2)) we1_4 (.tf (.ic .eql we1_20 (.li 3)) (.vf 105) (.tf (.ic .eql we1_20 (.li 4)) (.vf 111) (.tf (.ic .eql we1_20 (.li 5)) (.vf 117) (.vf 123)))))))),
  (3067188367, 125, (.tf (.ic .eql we1_21 (.li 0)) we1_2 (.tf (.ic .eql we1_21 (.li 1)) we1_3 (.tf (.ic .eql we1_21 (.li 2)) we1_4 (.tf (.ic .eql we1_21 (.li 3)) (.vf 105) (.tf (.ic .eql we1_21 (.li 4)) (.vf 111) (.tf (.ic .eql we1_21 (.li 5)) (.vf 117) (.vf 123)))))))),
  (3149230428, 126, (.tf (.ic .eql we1_22 (.li 3)) (.fb .sub (.vf 124) (.vf 125)) (.fb .mul (.vf 124) (.vf 125)))),
  (2198381711, 127, (.tf (.ic .eql we1_22 (.li 2)) (.fb .add (.vf 124) (.vf 125)) (.vf 126))),
  (2194947789, 128, (.tf (.ic .eql (.ai 9 0 (.ci (.at 1 4) (.ci (.li 7) .n0))) (.li 0)) (.fb .quo (.vf 124) (.vf 125)) (.vf 127))),
  (2772056422, 129, (.tf we1_19 (.tf we1_19 (.fb .quo (.i2f (.ib .sub .i64 (.ai 9 0 (.ci (.ib .quo .i64 (.at 1 4) (.li 11)) (.ci (.li 33) .n0))) (.li 16))) (.lf 4620693217682128896)) (.lf 0)) (.tf (.vb 2) (.vf 128) (.vf 127)))),
  (1713529867, 130, (.tf (.ic .eql we1_24 (.li 0)) we1_2 (.tf (.ic .eql we1_24 (.li 1)) we1_3 (.tf (.ic .eql we1_24 (.li 2)) we1_4 (.tf (.ic .eql we1_24 (.li 3)) (.vf 105) (.tf (.ic .eql we1_24 (.li 4)) (.vf 111) (.tf (.ic .eql we1_24 (.li 5)) (.vf 117) (.tf (.ic .eql we1_24 (.li 6)) (.vf 123) (.vf 129))))))))),
  (2815910495, 131, (.tf (.ic .eql we1_25 (.li 0)) we1_2 (.tf (.ic .eql we1_25 (.li 1)) we1_3 (.tf (.ic .eql we1_25 (.li 2)) we1_4 (.tf (.ic .eql we1_25 (.li 3)) (.vf 105) (.tf (.ic .eql we1_25 (.li 4)) (.vf 111) (.tf (.ic .eql we1_25 (.li 5)) (.vf 117) (.tf (.ic .eql we1_25 (.li 6)) (.vf 123) (.vf 129))))))))),
  (3777766058, 132, (.tf (.ic .eql we1_26 (.li 3)) (.fb .sub (.vf 130) (.vf 131)) (.fb .mul (.vf 130) (.vf 131)))),
  (2820917323, 133, (.tf (.ic .eql we1_26 (.li 2)) (.fb .add (.vf 130) (.vf 131)) (.vf 132))),
  (2817483401, 134, (.tf (.ic .eql (.ai 9 0 (.ci (.at 1 5) (.ci (.li 7) .n0))) (.li 0)) (.fb .quo (.vf 130) (.vf 131)) (.vf 133))),
  (2086727275, 135, (.tf we1_23 (.tf we1_23 (.fb .quo (.i2f (.ib .sub .i64 (.ai 9 0 (.ci (.ib .quo .i64 (.at 1 5) (.li 11)) (.ci (.li 33) .n0))) (.li 16))) (.lf 4620693217682128896)) (.lf 0)) (.tf (.vb 2) (.vf 134) (.vf 133)))),
  (3767449111, 136, (.tf (.ic .eql we1_28 (.li 0)) we1_2 (.tf (.ic .eql we1_28 (.li 1)) we1_3 (.tf (.ic .eql we1_28 (.li 2)) we1_4 (.tf (.ic .eql we1_28 (.li 3)) (.vf 105) (.tf (.ic .eql we1_28 (.li 4)) (.vf 111) (.tf (.ic .eql we1_28 (.li 5)) (.vf 117) (.tf (.ic .eql we1_28 (.li 6)) (.vf 123) (.tf (.ic .eql we1_28 (.li 7)) (.vf 129) (.vf 135)))))))))),
  (118778639, 137, (.tf (.ic .eql we1_29 (.li 0)) we1_2 (.tf (.ic .eql we1_29 (.li 1)) we1_3 (.tf (.ic .eql we1_29 (.li 2)) we1_4 (.tf (.ic .eql we1_29 (.li 3)) (.vf 105) (.tf (.ic .eql we1_29 (.li 4)) (.vf 111) (.tf (.ic .eql we1_29 (.li 5)) (.vf 117) (.tf (.ic .eql we1_29 (.li 6)) (.vf 123) (.tf (.ic .eql we1_29 (.li 7)) (.vf 129) (.vf 135)))))))))),
  (111334397, 138, (.tf (.ic .eql we1_30 (.li 3)) (.fb .sub (.vf 136) (.vf 137)) (.fb .mul (.vf 136) (.vf 137)))),
  (3443452935, 139, (.tf (.ic .eql we1_30 (.li 2)) (.fb .add (.vf 136) (.vf 137)) (.vf 138))),
  (3440019013, 140, (.tf (.ic .eql (.ai 9 0 (.ci (.at 1 6) (.ci (.li 7) .n0))) (.li 0)) (.fb .quo (.vf 136) (.vf 137)) (.vf 139))),
  (1401398128, 141, (.tf we1_27 (.tf we1_27 (.fb .quo (.i2f (.ib .sub .i64 (.ai 9 0 (.ci (.ib .quo .i64 (.at 1 6) (.li 11)) (.ci (.li 33) .n0))) (.li 16))) (.lf 4620693217682128896)) (.lf 0)) (.tf (.vb 2) (.vf 140) (.vf 139)))),
  (3375514371, 142, (.tf (.ic .eql we1_32 (.li 0)) we1_2 (.tf (.ic .eql we1_32 (.li 1)) we1_3 (.tf (.ic .eql we1_32 (.li 2)) we1_4 (.tf (.ic .eql we1_32 (.li 3)) (.vf 105) (.tf (.ic .eql we1_32 (.li 4)) (.vf 111) (.tf (.ic .eql we1_32 (.li 5)) (.vf 117) (.tf (.ic .eql we1_32 (.li 6)) (.vf 123) (.tf (.ic .eql we1_32 (.li 7)) (.vf 129) (.tf (.ic .eql we1_32 (.li 8)) (.vf 135) (.vf 141))))))))))),
  (3565727381, 143, (.tf (.ic .eql we1_33 (.li 0)) we1_2 (.tf (.ic .eql we1_33 (.li 1)) we1_3 (.tf (.ic .eql we1_33 (.li 2)) we1_4 (.tf (.ic .eql we1_33 (.li 3)) (.vf 105) (.tf (.ic .eql we1_33 (.li 4)) (.vf 111) (.tf (.ic .eql we1_33 (.li 5)) (.vf 117) (.tf (.ic .eql we1_33 (.li 6)) (.vf 123) (.tf (.ic .eql we1_33 (.li 7)) (.vf 129) (.tf (.ic .eql we1_33 (.li 8)) (.vf 135) (.vf 141))))))))))),
  (739870027, 144, (.tf (.ic .eql we1_34 (.li 3)) (.fb .sub (.vf 142) (.vf 143)) (.fb .mul (.vf 142) (.vf 143)))),
  (4065988547, 145, (.tf (.ic .eql we1_34 (.li 2)) (.fb .add (.vf 142) (.vf 143)) (.vf 144))),
  (4062554625, 146, (.tf (.ic .eql (.ai 9 0 (.ci (.at 1 7) (.ci (.li 7) .n0))) (.li 0)) (.fb .quo (.vf 142) (.vf 143)) (.vf 145))),
  (716068981, 147, (.tf we1_31 (.tf we1_31 (.fb .quo (.i2f (.ib .sub .i64 (.ai 9 0 (.ci (.ib .quo .i64 (.at 1 7) (.li 11)) (.ci (.li 33) .n0))) (.li 16))) (.lf 4620693217682128896)) (.lf 0)) (.tf (.vb 2) (.vf 146) (.vf 145)))),
  (2334993370, 148, (.tf (.ic .eql we1_37 (.li 0)) (.vf 135) (.tf (.ic .eql we1_37 (.li 1)) (.vf 141) (.vf 147)))),
  (43030828, 149, (.tf (.ic .eql we1_39 (.li 0)) (.vf 135) (.tf (.ic .eql we1_39 (.li 1)) (.vf 141) (.vf 147)))),
  (1917683249, 150, (.tf (.ic .eql we1_40 (.li 0)) (.vf 129) (.tf (.ic .eql we1_40 (.li 1)) (.vf 135) (.vf 141)))),
  (3920687998, 151, (.tf (.ic .eql we1_41 (.li 0)) (.vf 129) (.tf (.ic .eql we1_41 (.li 1)) (.vf 135) (.vf 141)))),
  (1500373128, 152, (.tf (.ic .eql we1_42 (.li 0)) (.vf 123) (.tf (.ic .eql we1_42 (.li 1)) (.vf 129) (.vf 135)))),
  (3503377877, 153, (.tf (.ic .eql we1_43 (.li 0)) (.vf 123) (.tf (.ic .eql we1_43 (.li 1)) (.vf 129) (.vf 135)))),
  (1083063007, 154, (.tf (.ic .eql we1_44 (.li 0)) (.vf 117) (.tf (.ic .eql we1_44 (.li 1)) (.vf 123) (.vf 129)))),
  (3086067756, 155, (.tf (.ic .eql we1_45 (.li 0)) (.vf 117) (.tf (.ic .eql we1_45 (.li 1)) (.vf 123) (.vf 129)))),
  (665752886, 156, (.tf (.ic .eql we1_46 (.li 0)) (.vf 111) (.tf (.ic .eql we1_46 (.li 1)) (.vf 117) (.vf 123)))),
  (2668757635, 157, (.tf (.ic .eql we1_47 (.li 0)) (.vf 111) (.tf (.ic .eql we1_47 (.li 1)) (.vf 117) (.vf 123)))),
  (248442765, 158, (.tf (.ic .eql we1_48 (.li 0)) (.vf 105) (.tf (.ic .eql we1_48 (.li 1)) (.vf 111) (.vf 117)))),
  (2251447514, 159, (.tf (.ic .eql we1_49 (.li 0)) (.vf 105) (.tf (.ic .eql we1_49 (.li 1)) (.vf 111) (.vf 117)))),
  (589144689, 160, (.tf (.ic .eql we1_50 (.li 0)) we1_4 (.tf (.ic .eql we1_50 (.li 1)) (.vf 105) (.vf 111)))),
  (2592149438, 161, (.tf (.ic .eql we1_51 (.li 0)) we1_4 (.tf (.ic .eql we1_51 (.li 1)) (.vf 105) (.vf 111)))),
  (2370441076, 162, (.tf (.ic .eql we1_52 (.li 0)) we1_3 (.tf (.ic .eql we1_52 (.li 1)) we1_4 (.vf 105)))),
  (78478534, 163, (.tf (.ic .eql we1_53 (.li 0)) we1_3 (.tf (.ic .eql we1_53 (.li 1)) we1_4 (.vf 105)))),
  (2001500142, 164, (.tf (.ic .eql we1_54 (.li 0)) we1_2 (.tf (.ic .eql we1_54 (.li 1)) we1_3 we1_4))),
  (305897095, 165, (.tf (.ic .eql we1_55 (.li 0)) we1_2 (.tf (.ic .eql we1_55 (.li 1)) we1_3 we1_4))),
  (769969671, 166, (.tf we1_57 we1_2 (.tf we1_58 we1_3 (.tf we1_59 we1_4 (.tf we1_60 (.vf 105) (.tf we1_61 (.vf 111) (.tf we1_62 (.vf 117) (.tf we1_63 (.vf 123) (.tf we1_64 (.vf 129) (.tf we1_65 (.vf 135) (.tf we1_66 (.vf 141) (.vf 147)))))))))))),
  (835943616, 167, (.tf we1_69 we1_2 (.tf we1_70 we1_3 (.tf we1_71 we1_4 (.tf we1_72 (.vf 105) (.tf we1_73 (.vf 111) (.tf we1_74 (.vf 117) (.tf we1_75 (.vf 123) (.tf we1_76 (.vf 129) (.tf we1_77 (.vf 135) (.tf we1_78 (.vf 141) (.vf 147)))))))))))),
  (1949349821, 168, (.tf we1_80 we1_2 (.tf we1_81 we1_3 (.tf we1_82 we1_4 (.tf we1_83 (.vf 105) (.tf we1_84 (.vf 111) (.tf we1_85 (.vf 117) (.tf we1_86 (.vf 123) (.tf we1_87 (.vf 129) (.tf we1_88 (.vf 135) (.vf 141))))))))))),
  (4156210017, 169, (.tf we1_90 we1_2 (.tf we1_91 we1_3 (.tf we1_92 we1_4 (.tf we1_93 (.vf 105) (.tf we1_94 (.vf 111) (.tf we1_95 (.vf 117) (.tf we1_96 (.vf 123) (.tf we1_97 (.vf 129) (.tf we1_98 (.vf 135) (.vf 141))))))))))),
  (49148510, 170, (.tf we1_100 we1_2 (.tf we1_101 we1_3 (.tf we1_102 we1_4 (.tf we1_103 (.vf 105) (.tf we1_104 (.vf 111) (.tf we1_105 (.vf 117) (.tf we1_106 (.vf 123) (.tf we1_107 (.vf 129) (.vf 135)))))))))),
  (2815152919, 171, (.fb .mul we1_3 (.vf 170))),
  (3500962852, 172, (.tf we1_109 we1_2 (.tf we1_110 we1_3 (.tf we1_111 we1_4 (.tf we1_112 (.vf 105) (.tf we1_113 (.vf 111) (.tf we1_114 (.vf 117) (.tf we1_115 (.vf 123) (.vf 129))))))))),
  (1399660968, 173, (.tf we1_117 we1_2 (.tf we1_118 we1_3 (.tf we1_119 we1_4 (.tf we1_120 (.vf 105) (.tf we1_121 (.vf 111) (.tf we1_122 (.vf 117) (.tf we1_123 (.vf 123) (.vf 129))))))))),
  (3873195733, 174, (.tf we1_125 we1_2 (.tf we1_126 we1_3 (.tf we1_127 we1_4 (.tf we1_128 (.vf 105) (.tf we1_129 (.vf 111) (.tf we1_130 (.vf 117) (.vf 123)))))))),
  (3912780100, 175, (.tf we1_132 we1_2 (.tf we1_133 we1_3 (.tf we1_134 we1_4 (.tf we1_135 (.vf 105) (.tf we1_136 (.vf 111) (.tf we1_137 (.vf 117) (.vf 123)))))))),
  (1113067997, 176, (.tf we1_139 we1_2 (.tf we1_140 we1_3 (.tf we1_141 we1_4 (.tf we1_142 (.vf 105) (.tf we1_143 (.vf 111) (.vf 117))))))),
  (3293538615, 177, (.tf we1_145 we1_2 (.tf we1_146 we1_3 (.tf we1_147 we1_4 (.tf we1_148 (.vf 105) (.tf we1_149 (.vf 111) (.vf 117))))))),
  (3810514226, 178, (.tf we1_151 we1_2 (.tf we1_152 we1_3 (.tf we1_153 we1_4 (.tf we1_154 (.vf 105) (.vf 111)))))),
  (3836903804, 179, (.tf we1_156 we1_2 (.tf we1_157 we1_3 (.tf we1_158 we1_4 (.tf we1_159 (.vf 105) (.vf 111)))))),
  (3375599838, 180, (.tf we1_161 we1_2 (.tf we1_162 we1_3 (.tf we1_163 we1_4 (.vf 105))))),
  (1247908376, 181, (.tf we1_165 we1_2 (.tf we1_166 we1_3 (.tf we1_167 we1_4 (.vf 105))))),
  (439297506, 182, (.tf (.ic .eql we1_168 (.li 0)) we1_2 (.tf (.ic .eql we1_168 (.li 1)) we1_3 we1_4))),
  (452492295, 183, (.tf (.ic .eql we1_169 (.li 0)) we1_2 (.tf (.ic .eql we1_169 (.li 1)) we1_3 we1_4))),
  (1440742663, 184, (.tf we1_171 we1_2 (.tf we1_172 we1_3 (.tf we1_173 we1_4 (.tf we1_174 (.vf 105) (.tf we1_175 (.vf 111) (.tf we1_176 (.vf 117) (.tf we1_177 (.vf 123) (.tf we1_178 (.vf 129) (.tf we1_179 (.vf 135) (.tf we1_180 (.vf 141) (.tf we1_181 (.vf 147) we1_182)))))))))))),
  (3660797648, 185, (.tf we1_184 we1_2 (.tf we1_185 we1_3 (.tf we1_186 we1_4 (.tf we1_187 (.vf 105) (.tf we1_188 (.vf 111) (.tf we1_189 (.vf 117) (.tf we1_190 (.vf 123) (.tf we1_191 (.vf 129) (.tf we1_192 (.vf 135) (.tf we1_193 (.vf 141) (.tf we1_194 (.vf 147) we1_182)))))))))))),
  (1459516153, 186, (.tf we1_57 we1_2 (.tf we1_58 we1_3 (.tf we1_59 we1_4 (.tf we1_60 (.vf 105) (.tf we1_61 (.vf 111) (.tf we1_62 (.vf 117) (.tf we1_63 (.vf 123) (.tf we1_64 (.vf 129) (.tf we1_65 (.vf 135) (.tf we1_66 (.vf 141) we1_195))))))))))),
  (1525490098, 187, (.tf we1_69 we1_2 (.tf we1_70 we1_3 (.tf we1_71 we1_4 (.tf we1_72 (.vf 105) (.tf we1_73 (.vf 111) (.tf we1_74 (.vf 117) (.tf we1_75 (.vf 123) (.tf we1_76 (.vf 129) (.tf we1_77 (.vf 135) (.tf we1_78 (.vf 141) we1_195))))))))))),
  (1380558474, 188, (.fb .mul we1_4 (.vf 170))),
  (1949349868, 189, (.tf we1_80 we1_2 (.tf we1_81 we1_3 (.tf we1_82 we1_4 (.tf we1_83 (.vf 105) (.tf we1_84 (.vf 111) (.tf we1_85 (.vf 117) (.tf we1_86 (.vf 123) (.tf we1_87 (.vf 129) (.tf we1_88 (.vf 135) (.vf 188))))))))))),
  (4156210064, 190, (.tf we1_90 we1_2 (.tf we1_91 we1_3 (.tf we1_92 we1_4 (.tf we1_93 (.vf 105) (.tf we1_94 (.vf 111) (.tf we1_95 (.vf 117) (.tf we1_96 (.vf 123) (.tf we1_97 (.vf 129) (.tf we1_98 (.vf 135) (.vf 188))))))))))),
  (742695020, 191, (.tf we1_100 we1_2 (.tf we1_101 we1_3 (.tf we1_102 we1_4 (.tf we1_103 (.vf 105) (.tf we1_104 (.vf 111) (.tf we1_105 (.vf 117) (.tf we1_106 (.vf 123) (.tf we1_107 (.vf 129) we1_196))))))))),
  (1380558495, 192, (.fb .mul we1_4 (.vf 191))),
  (4196509376, 193, (.tf we1_109 we1_2 (.tf we1_110 we1_3 (.tf we1_111 we1_4 (.tf we1_112 (.vf 105) (.tf we1_113 (.vf 111) (.tf we1_114 (.vf 117) (.tf we1_115 (.vf 123) we1_197)))))))),
  (2095207492, 194, (.tf we1_117 we1_2 (.tf we1_118 we1_3 (.tf we1_119 we1_4 (.tf we1_120 (.vf 105) (.tf we1_121 (.vf 111) (.tf we1_122 (.vf 117) (.tf we1_123 (.vf 123) we1_197)))))))),
  (275774980, 195, (.tf we1_125 we1_2 (.tf we1_126 we1_3 (.tf we1_127 we1_4 (.tf we1_128 (.vf 105) (.tf we1_129 (.vf 111) (.tf we1_130 (.vf 117) we1_198))))))),
  (315359347, 196, (.tf we1_132 we1_2 (.tf we1_133 we1_3 (.tf we1_134 we1_4 (.tf we1_135 (.vf 105) (.tf we1_136 (.vf 111) (.tf we1_137 (.vf 117) we1_198))))))),
  (1812614549, 197, (.tf we1_139 we1_2 (.tf we1_140 we1_3 (.tf we1_141 we1_4 (.tf we1_142 (.vf 105) (.tf we1_143 (.vf 111) we1_199)))))),
  (3993085167, 198, (.tf we1_145 we1_2 (.tf we1_146 we1_3 (.tf we1_147 we1_4 (.tf we1_148 (.vf 105) (.tf we1_149 (.vf 111) we1_199)))))),
  (217093501, 199, (.tf we1_151 we1_2 (.tf we1_152 we1_3 (.tf we1_153 we1_4 (.tf we1_154 (.vf 105) we1_200))))),
  (243483079, 200, (.tf we1_156 we1_2 (.tf we1_157 we1_3 (.tf we1_158 we1_4 (.tf we1_159 (.vf 105) we1_200))))),
  (4079146418, 201, (.tf we1_161 we1_2 (.tf we1_162 we1_3 (.tf we1_163 we1_4 we1_201)))),
  (1951454956, 202, (.tf we1_165 we1_2 (.tf we1_166 we1_3 (.tf we1_167 we1_4 we1_201)))),
  (4181337469, 203, (.tf we1_203 we1_2 (.tf we1_204 we1_3 (.tf we1_205 we1_4 (.tf we1_206 (.vf 105) (.tf we1_207 (.vf 111) (.tf we1_208 (.vf 117) (.tf we1_209 (.vf 123) (.tf we1_210 (.vf 129) (.tf we1_211 (.vf 135) (.tf we1_212 (.vf 141) (.tf we1_213 (.vf 147) (.tf we1_214 we1_182 we1_215))))))))))))),
  (4260506203, 204, (.tf we1_217 we1_2 (.tf we1_218 we1_3 (.tf we1_219 we1_4 (.tf we1_220 (.vf 105) (.tf we1_221 (.vf 111) (.tf we1_222 (.vf 117) (.tf we1_223 (.vf 123) (.tf we1_224 (.vf 129) (.tf we1_225 (.vf 135) (.tf we1_226 (.vf 141) (.tf we1_227 (.vf 147) (.tf we1_228 we1_182 we1_215))))))))))))),
  (1602746721, 205, (.tf we1_171 we1_2 (.tf we1_172 we1_3 (.tf we1_173 we1_4 (.tf we1_174 (.vf 105) (.tf we1_175 (.vf 111) (.tf we1_176 (.vf 117) (.tf we1_177 (.vf 123) (.tf we1_178 (.vf 129) (.tf we1_179 (.vf 135) (.tf we1_180 (.vf 141) (.tf we1_181 we1_195 we1_229)))))))))))),
  (3822801706, 206, (.tf we1_184 we1_2 (.tf we1_185 we1_3 (.tf we1_186 we1_4 (.tf we1_187 (.vf 105) (.tf we1_188 (.vf 111) (.tf we1_189 (.vf 117) (.tf we1_190 (.vf 123) (.tf we1_191 (.vf 129) (.tf we1_192 (.vf 135) (.tf we1_193 (.vf 141) (.tf we1_194 we1_195 we1_229)))))))))))),
  (2575896121, 207, (.tf we1_80 we1_2 (.tf we1_81 we1_3 (.tf we1_82 we1_4 (.tf we1_83 (.vf 105) (.tf we1_84 (.vf 111) (.tf we1_85 (.vf 117) (.tf we1_86 (.vf 123) (.tf we1_87 (.vf 129) (.tf we1_88 (.vf 135) we1_230)))))))))),
  (487789026, 208, (.tf we1_90 we1_2 (.tf we1_91 we1_3 (.tf we1_92 we1_4 (.tf we1_93 (.vf 105) (.tf we1_94 (.vf 111) (.tf we1_95 (.vf 117) (.tf we1_96 (.vf 123) (.tf we1_97 (.vf 129) (.tf we1_98 (.vf 135) we1_230)))))))))),
  (4144711420, 209, (.tf we1_57 we1_2 (.tf we1_58 we1_3 (.tf we1_59 we1_4 (.tf we1_60 (.vf 105) (.tf we1_61 (.vf 111) (.tf we1_62 (.vf 117) (.tf we1_63 (.vf 123) (.tf we1_64 (.vf 129) (.tf we1_65 (.vf 135) (.tf we1_66 we1_230 we1_231))))))))))),
  (4210685365, 210, (.tf we1_69 we1_2 (.tf we1_70 we1_3 (.tf we1_71 we1_4 (.tf we1_72 (.vf 105) (.tf we1_73 (.vf 111) (.tf we1_74 (.vf 117) (.tf we1_75 (.vf 123) (.tf we1_76 (.vf 129) (.tf we1_77 (.vf 135) (.tf we1_78 we1_230 we1_231))))))))))),
  (4143352283, 211, (.tf we1_80 we1_2 (.tf we1_81 we1_3 (.tf we1_82 we1_4 (.tf we1_83 (.vf 105) (.tf we1_84 (.vf 111) (.tf we1_85 (.vf 117) (.tf we1_86 (.vf 123) (.tf we1_87 (.vf 129) (.tf we1_88 we1_196 we1_232)))))))))),
  (2055245188, 212, (.tf we1_90 we1_2 (.tf we1_91 we1_3 (.tf we1_92 we1_4 (.tf we1_93 (.vf 105) (.tf we1_94 (.vf 111) (.tf we1_95 (.vf 117) (.tf we1_96 (.vf 123) (.tf we1_97 (.vf 129) (.tf we1_98 we1_196 we1_232)))))))))),
  (896393681, 213, (.tf we1_100 we1_2 (.tf we1_101 we1_3 (.tf we1_102 we1_4 (.tf we1_103 (.vf 105) (.tf we1_104 (.vf 111) (.tf we1_105 (.vf 117) (.tf we1_106 (.vf 123) (.tf we1_107 we1_197 we1_233))))))))),
  (2915450473, 214, (.tf we1_109 we1_2 (.tf we1_110 we1_3 (.tf we1_111 we1_4 (.tf we1_112 (.vf 105) (.tf we1_113 (.vf 111) (.tf we1_114 (.vf 117) (.tf we1_115 we1_198 we1_234)))))))),
  (814148589, 215, (.tf we1_117 we1_2 (.tf we1_118 we1_3 (.tf we1_119 we1_4 (.tf we1_120 (.vf 105) (.tf we1_121 (.vf 111) (.tf we1_122 (.vf 117) (.tf we1_123 we1_198 we1_234)))))))),
  (1854925804, 216, (.tf we1_125 we1_2 (.tf we1_126 we1_3 (.tf we1_127 we1_4 (.tf we1_128 (.vf 105) (.tf we1_129 (.vf 111) (.tf we1_130 we1_199 we1_235))))))),
  (1894510171, 217, (.tf we1_132 we1_2 (.tf we1_133 we1_3 (.tf we1_134 we1_4 (.tf we1_135 (.vf 105) (.tf we1_136 (.vf 111) (.tf we1_137 we1_199 we1_235))))))),
  (1957007809, 218, (.tf we1_139 we1_2 (.tf we1_140 we1_3 (.tf we1_141 we1_4 (.tf we1_142 (.vf 105) (.tf we1_143 we1_200 we1_236)))))),
  (4137478427, 219, (.tf we1_145 we1_2 (.tf we1_146 we1_3 (.tf we1_147 we1_4 (.tf we1_148 (.vf 105) (.tf we1_149 we1_200 we1_236)))))),
  (3221696488, 220, (.tf we1_151 we1_2 (.tf we1_152 we1_3 (.tf we1_153 we1_4 (.tf we1_154 we1_201 we1_237))))),
  (3248086066, 221, (.tf we1_156 we1_2 (.tf we1_157 we1_3 (.tf we1_158 we1_4 (.tf we1_159 we1_201 we1_237))))),
  (3702655279, 222, (.tf we1_239 we1_2 (.tf we1_240 we1_3 (.tf we1_241 we1_4 (.tf we1_242 (.vf 105) (.tf we1_243 (.vf 111) (.tf we1_244 (.vf 117) (.tf we1_245 (.vf 123) (.tf we1_246 (.vf 129) (.tf we1_247 (.vf 135) (.tf we1_248 (.vf 141) (.tf we1_249 (.vf 147) (.tf we1_250 we1_182 (.tf we1_251 we1_215 we1_252)))))))))))))),
  (1640937762, 223, (.tf we1_254 we1_2 (.tf we1_255 we1_3 (.tf we1_256 we1_4 (.tf we1_257 (.vf 105) (.tf we1_258 (.vf 111) (.tf we1_259 (.vf 117) (.tf we1_260 (.vf 123) (.tf we1_261 (.vf 129) (.tf we1_262 (.vf 135) (.tf we1_263 (.vf 141) (.tf we1_264 (.vf 147) (.tf we1_265 we1_182 (.tf we1_266 we1_215 we1_252)))))))))))))),
  (2821667584, 224, (.tf we1_203 we1_2 (.tf we1_204 we1_3 (.tf we1_205 we1_4 (.tf we1_206 (.vf 105) (.tf we1_207 (.vf 111) (.tf we1_208 (.vf 117) (.tf we1_209 (.vf 123) (.tf we1_210 (.vf 129) (.tf we1_211 (.vf 135) (.tf we1_212 (.vf 141) (.tf we1_213 we1_195 (.tf we1_214 we1_229 we1_267))))))))))))),
  (2900836318, 225, (.tf we1_217 we1_2 (.tf we1_218 we1_3 (.tf we1_219 we1_4 (.tf we1_220 (.vf 105) (.tf we1_221 (.vf 111) (.tf we1_222 (.vf 117) (.tf we1_223 (.vf 123) (.tf we1_224 (.vf 129) (.tf we1_225 (.vf 135) (.tf we1_226 (.vf 141) (.tf we1_227 we1_195 (.tf we1_228 we1_229 we1_267))))))))))))),
  (2581896139, 226, (.tf we1_80 we1_2 (.tf we1_81 we1_3 (.tf we1_82 we1_4 (.tf we1_83 (.vf 105) (.tf we1_84 (.vf 111) (.tf we1_85 (.vf 117) (.tf we1_86 (.vf 123) (.tf we1_87 (.vf 129) (.tf we1_88 (.vf 135) we1_268)))))))))),
  (493789044, 227, (.tf we1_90 we1_2 (.tf we1_91 we1_3 (.tf we1_92 we1_4 (.tf we1_93 (.vf 105) (.tf we1_94 (.vf 111) (.tf we1_95 (.vf 117) (.tf we1_96 (.vf 123) (.tf we1_97 (.vf 129) (.tf we1_98 (.vf 135) we1_268)))))))))),
  (4130406023, 228, (.tf we1_57 we1_2 (.tf we1_58 we1_3 (.tf we1_59 we1_4 (.tf we1_60 (.vf 105) (.tf we1_61 (.vf 111) (.tf we1_62 (.vf 117) (.tf we1_63 (.vf 123) (.tf we1_64 (.vf 129) (.tf we1_65 (.vf 135) (.tf we1_66 we1_268 we1_269))))))))))),
  (4196379968, 229, (.tf we1_69 we1_2 (.tf we1_70 we1_3 (.tf we1_71 we1_4 (.tf we1_72 (.vf 105) (.tf we1_73 (.vf 111) (.tf we1_74 (.vf 117) (.tf we1_75 (.vf 123) (.tf we1_76 (.vf 129) (.tf we1_77 (.vf 135) (.tf we1_78 we1_268 we1_269))))))))))),
  (1130372268, 230, (.tf we1_171 we1_2 (.tf we1_172 we1_3 (.tf we1_173 we1_4 (.tf we1_174 (.vf 105) (.tf we1_175 (.vf 111) (.tf we1_176 (.vf 117) (.tf we1_177 (.vf 123) (.tf we1_178 (.vf 129) (.tf we1_179 (.vf 135) (.tf we1_180 we1_268 (.tf we1_181 we1_269 we1_270)))))))))))),
  (3350427253, 231, (.tf we1_184 we1_2 (.tf we1_185 we1_3 (.tf we1_186 we1_4 (.tf we1_187 (.vf 105) (.tf we1_188 (.vf 111) (.tf we1_189 (.vf 117) (.tf we1_190 (.vf 123) (.tf we1_191 (.vf 129) (.tf we1_192 (.vf 135) (.tf we1_193 we1_268 (.tf we1_194 we1_269 we1_270)))))))))))),
  (4149352301, 232, (.tf we1_80 we1_2 (.tf we1_81 we1_3 (.tf we1_82 we1_4 (.tf we1_83 (.vf 105) (.tf we1_84 (.vf 111) (.tf we1_85 (.vf 117) (.tf we1_86 (.vf 123) (.tf we1_87 (.vf 129) (.tf we1_88 we1_196 we1_271)))))))))),
  (2061245206, 233, (.tf we1_90 we1_2 (.tf we1_91 we1_3 (.tf we1_92 we1_4 (.tf we1_93 (.vf 105) (.tf we1_94 (.vf 111) (.tf we1_95 (.vf 117) (.tf we1_96 (.vf 123) (.tf we1_97 (.vf 129) (.tf we1_98 we1_196 we1_271)))))))))),
  (1429894960, 234, (.tf we1_57 we1_2 (.tf we1_58 we1_3 (.tf we1_59 we1_4 (.tf we1_60 (.vf 105) (.tf we1_61 (.vf 111) (.tf we1_62 (.vf 117) (.tf we1_63 (.vf 123) (.tf we1_64 (.vf 129) (.tf we1_65 we1_196 (.tf we1_66 we1_271 we1_272))))))))))),
  (1495868905, 235, (.tf we1_69 we1_2 (.tf we1_70 we1_3 (.tf we1_71 we1_4 (.tf we1_72 (.vf 105) (.tf we1_73 (.vf 111) (.tf we1_74 (.vf 117) (.tf we1_75 (.vf 123) (.tf we1_76 (.vf 129) (.tf we1_77 we1_196 (.tf we1_78 we1_271 we1_272))))))))))),
  (2038998162, 236, (.tf we1_80 we1_2 (.tf we1_81 we1_3 (.tf we1_82 we1_4 (.tf we1_83 (.vf 105) (.tf we1_84 (.vf 111) (.tf we1_85 (.vf 117) (.tf we1_86 (.vf 123) (.tf we1_87 we1_197 (.tf we1_88 we1_233 we1_273)))))))))),
  (4245858358, 237, (.tf we1_90 we1_2 (.tf we1_91 we1_3 (.tf we1_92 we1_4 (.tf we1_93 (.vf 105) (.tf we1_94 (.vf 111) (.tf we1_95 (.vf 117) (.tf we1_96 (.vf 123) (.tf we1_97 we1_197 (.tf we1_98 we1_233 we1_273)))))))))),
  (1667249331, 238, (.tf we1_100 we1_2 (.tf we1_101 we1_3 (.tf we1_102 we1_4 (.tf we1_103 (.vf 105) (.tf we1_104 (.vf 111) (.tf we1_105 (.vf 117) (.tf we1_106 we1_198 (.tf we1_107 we1_234 we1_274))))))))),
  (2251548559, 239, (.tf we1_109 we1_2 (.tf we1_110 we1_3 (.tf we1_111 we1_4 (.tf we1_112 (.vf 105) (.tf we1_113 (.vf 111) (.tf we1_114 we1_199 (.tf we1_115 we1_235 we1_275)))))))),
  (150246675, 240, (.tf we1_117 we1_2 (.tf we1_118 we1_3 (.tf we1_119 we1_4 (.tf we1_120 (.vf 105) (.tf we1_121 (.vf 111) (.tf we1_122 we1_199 (.tf we1_123 we1_235 we1_275)))))))),
  (4051233617, 241, (.tf we1_125 we1_2 (.tf we1_126 we1_3 (.tf we1_127 we1_4 (.tf we1_128 (.vf 105) (.tf we1_129 we1_200 (.tf we1_130 we1_236 we1_276))))))),
  (4090817984, 242, (.tf we1_132 we1_2 (.tf we1_133 we1_3 (.tf we1_134 we1_4 (.tf we1_135 (.vf 105) (.tf we1_136 we1_200 (.tf we1_137 we1_236 we1_276))))))),
  (2718558058, 243, (.tf we1_139 we1_2 (.tf we1_140 we1_3 (.tf we1_141 we1_4 (.tf we1_142 we1_201 (.tf we1_143 we1_237 we1_277)))))),
  (604061385, 244, (.tf we1_145 we1_2 (.tf we1_146 we1_3 (.tf we1_147 we1_4 (.tf we1_148 we1_201 (.tf we1_149 we1_237 we1_277)))))),
  (3578284589, 245, (.tf we1_279 we1_2 (.tf we1_280 we1_3 (.tf we1_281 we1_4 (.tf we1_282 (.vf 105) (.tf we1_283 (.vf 111) (.tf we1_284 (.vf 117) (.tf we1_285 (.vf 123) (.tf we1_286 (.vf 129) (.tf we1_287 (.vf 135) (.tf we1_288 (.vf 141) (.tf we1_289 (.vf 147) (.tf we1_290 we1_182 (.tf we1_291 we1_215 (.tf we1_292 we1_252 we1_293))))))))))))))),
  (3670648112, 246, (.tf we1_295 we1_2 (.tf we1_296 we1_3 (.tf we1_297 we1_4 (.tf we1_298 (.vf 105) (.tf we1_299 (.vf 111) (.tf we1_300 (.vf 117) (.tf we1_301 (.vf 123) (.tf we1_302 (.vf 129) (.tf we1_303 (.vf 135) (.tf we1_304 (.vf 141) (.tf we1_305 (.vf 147) (.tf we1_306 we1_182 (.tf we1_307 we1_215 (.tf we1_308 we1_252 we1_293))))))))))))))),
  (99932656, 247, (.tf we1_239 we1_2 (.tf we1_240 we1_3 (.tf we1_241 we1_4 (.tf we1_242 (.vf 105) (.tf we1_243 (.vf 111) (.tf we1_244 (.vf 117) (.tf we1_245 (.vf 123) (.tf we1_246 (.vf 129) (.tf we1_247 (.vf 135) (.tf we1_248 (.vf 141) (.tf we1_249 we1_195 (.tf we1_250 we1_229 (.tf we1_251 we1_267 we1_309)))))))))))))),
  (2333182430, 248, (.tf we1_254 we1_2 (.tf we1_255 we1_3 (.tf we1_256 we1_4 (.tf we1_257 (.vf 105) (.tf we1_258 (.vf 111) (.tf we1_259 (.vf 117) (.tf we1_260 (.vf 123) (.tf we1_261 (.vf 129) (.tf we1_262 (.vf 135) (.tf we1_263 (.vf 141) (.tf we1_264 we1_195 (.tf we1_265 we1_229 (.tf we1_266 we1_267 we1_309)))))))))))))),
  (2587896157, 249, (.tf we1_80 we1_2 (.tf we1_81 we1_3 (.tf we1_82 we1_4 (.tf we1_83 (.vf 105) (.tf we1_84 (.vf 111) (.tf we1_85 (.vf 117) (.tf we1_86 (.vf 123) (.tf we1_87 (.vf 129) (.tf we1_88 (.vf 135) we1_310)))))))))),
  (499789062, 250, (.tf we1_90 we1_2 (.tf we1_91 we1_3 (.tf we1_92 we1_4 (.tf we1_93 (.vf 105) (.tf we1_94 (.vf 111) (.tf we1_95 (.vf 117) (.tf we1_96 (.vf 123) (.tf we1_97 (.vf 129) (.tf we1_98 (.vf 135) we1_310)))))))))),
  (4120100642, 251, (.tf we1_57 we1_2 (.tf we1_58 we1_3 (.tf we1_59 we1_4 (.tf we1_60 (.vf 105) (.tf we1_61 (.vf 111) (.tf we1_62 (.vf 117) (.tf we1_63 (.vf 123) (.tf we1_64 (.vf 129) (.tf we1_65 (.vf 135) (.tf we1_66 we1_310 we1_311))))))))))),
  (4186074587, 252, (.tf we1_69 we1_2 (.tf we1_70 we1_3 (.tf we1_71 we1_4 (.tf we1_72 (.vf 105) (.tf we1_73 (.vf 111) (.tf we1_74 (.vf 117) (.tf we1_75 (.vf 123) (.tf we1_76 (.vf 129) (.tf we1_77 (.vf 135) (.tf we1_78 we1_310 we1_311))))))))))),
  (1731223858, 253, (.tf we1_171 we1_2 (.tf we1_172 we1_3 (.tf we1_173 we1_4 (.tf we1_174 (.vf 105) (.tf we1_175 (.vf 111) (.tf we1_176 (.vf 117) (.tf we1_177 (.vf 123) (.tf we1_178 (.vf 129) (.tf we1_179 (.vf 135) (.tf we1_180 we1_310 (.tf we1_181 we1_311 we1_312)))))))))))),
  (3951278843, 254, (.tf we1_184 we1_2 (.tf we1_185 we1_3 (.tf we1_186 we1_4 (.tf we1_187 (.vf 105) (.tf we1_188 (.vf 111) (.tf we1_189 (.vf 117) (.tf we1_190 (.vf 123) (.tf we1_191 (.vf 129) (.tf we1_192 (.vf 135) (.tf we1_193 we1_310 (.tf we1_194 we1_311 we1_312)))))))))))),
  (3353163439, 255, (.tf we1_203 we1_2 (.tf we1_204 we1_3 (.tf we1_205 we1_4 (.tf we1_206 (.vf 105) (.tf we1_207 (.vf 111) (.tf we1_208 (.vf 117) (.tf we1_209 (.vf 123) (.tf we1_210 (.vf 129) (.tf we1_211 (.vf 135) (.tf we1_212 we1_310 (.tf we1_213 we1_311 (.tf we1_214 we1_312 we1_313))))))))))))),
  (3432332173, 256, (.tf we1_217 we1_2 (.tf we1_218 we1_3 (.tf we1_219 we1_4 (.tf we1_220 (.vf 105) (.tf we1_221 (.vf 111) (.tf we1_222 (.vf 117) (.tf we1_223 (.vf 123) (.tf we1_224 (.vf 129) (.tf we1_225 (.vf 135) (.tf we1_226 we1_310 (.tf we1_227 we1_311 (.tf we1_228 we1_312 we1_313))))))))))))),
  (4155352319, 257, (.tf we1_80 we1_2 (.tf we1_81 we1_3 (.tf we1_82 we1_4 (.tf we1_83 (.vf 105) (.tf we1_84 (.vf 111) (.tf we1_85 (.vf 117) (.tf we1_86 (.vf 123) (.tf we1_87 (.vf 129) (.tf we1_88 we1_196 we1_314)))))))))),
  (2067245224, 258, (.tf we1_90 we1_2 (.tf we1_91 we1_3 (.tf we1_92 we1_4 (.tf we1_93 (.vf 105) (.tf we1_94 (.vf 111) (.tf we1_95 (.vf 117) (.tf we1_96 (.vf 123) (.tf we1_97 (.vf 129) (.tf we1_98 we1_196 we1_314)))))))))),
  (1421589587, 259, (.tf we1_57 we1_2 (.tf we1_58 we1_3 (.tf we1_59 we1_4 (.tf we1_60 (.vf 105) (.tf we1_61 (.vf 111) (.tf we1_62 (.vf 117) (.tf we1_63 (.vf 123) (.tf we1_64 (.vf 129) (.tf we1_65 we1_196 (.tf we1_66 we1_314 we1_315))))))))))),
  (1487563532, 260, (.tf we1_69 we1_2 (.tf we1_70 we1_3 (.tf we1_71 we1_4 (.tf we1_72 (.vf 105) (.tf we1_73 (.vf 111) (.tf we1_74 (.vf 117) (.tf we1_75 (.vf 123) (.tf we1_76 (.vf 129) (.tf we1_77 we1_196 (.tf we1_78 we1_314 we1_315))))))))))),
  (1859617057, 261, (.tf we1_171 we1_2 (.tf we1_172 we1_3 (.tf we1_173 we1_4 (.tf we1_174 (.vf 105) (.tf we1_175 (.vf 111) (.tf we1_176 (.vf 117) (.tf we1_177 (.vf 123) (.tf we1_178 (.vf 129) (.tf we1_179 we1_196 (.tf we1_180 we1_314 (.tf we1_181 we1_315 we1_316)))))))))))),
  (4079672042, 262, (.tf we1_184 we1_2 (.tf we1_185 we1_3 (.tf we1_186 we1_4 (.tf we1_187 (.vf 105) (.tf we1_188 (.vf 111) (.tf we1_189 (.vf 117) (.tf we1_190 (.vf 123) (.tf we1_191 (.vf 129) (.tf we1_192 we1_196 (.tf we1_193 we1_314 (.tf we1_194 we1_315 we1_316)))))))))))),
  (2044998180, 263, (.tf we1_80 we1_2 (.tf we1_81 we1_3 (.tf we1_82 we1_4 (.tf we1_83 (.vf 105) (.tf we1_84 (.vf 111) (.tf we1_85 (.vf 117) (.tf we1_86 (.vf 123) (.tf we1_87 we1_197 (.tf we1_88 we1_233 we1_317)))))))))),
  (4251858376, 264, (.tf we1_90 we1_2 (.tf we1_91 we1_3 (.tf we1_92 we1_4 (.tf we1_93 (.vf 105) (.tf we1_94 (.vf 111) (.tf we1_95 (.vf 117) (.tf we1_96 (.vf 123) (.tf we1_97 we1_197 (.tf we1_98 we1_233 we1_317)))))))))),
  (3634202807, 265, (.tf we1_57 we1_2 (.tf we1_58 we1_3 (.tf we1_59 we1_4 (.tf we1_60 (.vf 105) (.tf we1_61 (.vf 111) (.tf we1_62 (.vf 117) (.tf we1_63 (.vf 123) (.tf we1_64 we1_197 (.tf we1_65 we1_233 (.tf we1_66 we1_317 we1_318))))))))))),
  (3700176752, 266, (.tf we1_69 we1_2 (.tf we1_70 we1_3 (.tf we1_71 we1_4 (.tf we1_72 (.vf 105) (.tf we1_73 (.vf 111) (.tf we1_74 (.vf 117) (.tf we1_75 (.vf 123) (.tf we1_76 we1_197 (.tf we1_77 we1_233 (.tf we1_78 we1_317 we1_318))))))))))),
  (551801033, 267, (.tf we1_80 we1_2 (.tf we1_81 we1_3 (.tf we1_82 we1_4 (.tf we1_83 (.vf 105) (.tf we1_84 (.vf 111) (.tf we1_85 (.vf 117) (.tf we1_86 we1_198 (.tf we1_87 we1_234 (.tf we1_88 we1_274 we1_319)))))))))),
  (2758661229, 268, (.tf we1_90 we1_2 (.tf we1_91 we1_3 (.tf we1_92 we1_4 (.tf we1_93 (.vf 105) (.tf we1_94 (.vf 111) (.tf we1_95 (.vf 117) (.tf we1_96 we1_198 (.tf we1_97 we1_234 (.tf we1_98 we1_274 we1_319)))))))))),
  (3059261986, 269, (.tf we1_100 we1_2 (.tf we1_101 we1_3 (.tf we1_102 we1_4 (.tf we1_103 (.vf 105) (.tf we1_104 (.vf 111) (.tf we1_105 we1_199 (.tf we1_106 we1_235 (.tf we1_107 we1_275 we1_320))))))))),
  (2208803650, 270, (.tf we1_109 we1_2 (.tf we1_110 we1_3 (.tf we1_111 we1_4 (.tf we1_112 (.vf 105) (.tf we1_113 we1_200 (.tf we1_114 we1_236 (.tf we1_115 we1_276 we1_321)))))))),
  (107501766, 271, (.tf we1_117 we1_2 (.tf we1_118 we1_3 (.tf we1_119 we1_4 (.tf we1_120 (.vf 105) (.tf we1_121 we1_200 (.tf we1_122 we1_236 (.tf we1_123 we1_276 we1_321)))))))),
  (2573731144, 272, (.tf we1_125 we1_2 (.tf we1_126 we1_3 (.tf we1_127 we1_4 (.tf we1_128 we1_201 (.tf we1_129 we1_237 (.tf we1_130 we1_277 we1_322))))))),
  (2613315511, 273, (.tf we1_132 we1_2 (.tf we1_133 we1_3 (.tf we1_134 we1_4 (.tf we1_135 we1_201 (.tf we1_136 we1_237 (.tf we1_137 we1_277 we1_322))))))),
  (3812225415, 274, (.tf we1_324 we1_2 (.tf we1_325 we1_3 (.tf we1_326 we1_4 (.tf we1_327 (.vf 105) (.tf we1_328 (.vf 111) (.tf we1_329 (.vf 117) (.tf we1_330 (.vf 123) (.tf we1_331 (.vf 129) (.tf we1_332 (.vf 135) (.tf we1_333 (.vf 141) (.tf we1_334 (.vf 147) (.tf we1_335 we1_182 (.tf we1_336 we1_215 (.tf we1_337 we1_252 (.tf we1_338 we1_293 we1_339)))))))))))))))),
  (1763702687, 275, (.tf we1_341 we1_2 (.tf we1_342 we1_3 (.tf we1_343 we1_4 (.tf we1_344 (.vf 105) (.tf we1_345 (.vf 111) (.tf we1_346 (.vf 117) (.tf we1_347 (.vf 123) (.tf we1_348 (.vf 129) (.tf we1_349 (.vf 135) (.tf we1_350 (.vf 141) (.tf we1_351 (.vf 147) (.tf we1_352 we1_182 (.tf we1_353 we1_215 (.tf we1_354 we1_252 (.tf we1_355 we1_293 we1_339)))))))))))))))),
  (2031476535, 276, (.tf we1_279 we1_2 (.tf we1_280 we1_3 (.tf we1_281 we1_4 (.tf we1_282 (.vf 105) (.tf we1_283 (.vf 111) (.tf we1_284 (.vf 117) (.tf we1_285 (.vf 123) (.tf we1_286 (.vf 129) (.tf we1_287 (.vf 135) (.tf we1_288 (.vf 141) (.tf we1_289 we1_195 (.tf we1_290 we1_229 (.tf we1_291 we1_267 (.tf we1_292 we1_309 we1_356))))))))))))))),
  (2123840058, 277, (.tf we1_295 we1_2 (.tf we1_296 we1_3 (.tf we1_297 we1_4 (.tf we1_298 (.vf 105) (.tf we1_299 (.vf 111) (.tf we1_300 (.vf 117) (.tf we1_301 (.vf 123) (.tf we1_302 (.vf 129) (.tf we1_303 (.vf 135) (.tf we1_304 (.vf 141) (.tf we1_305 we1_195 (.tf we1_306 we1_229 (.tf we1_307 we1_267 (.tf we1_308 we1_309 we1_356))))))))))))))),
  (2593896175, 278, (.tf we1_80 we1_2 (.tf we1_81 we1_3 (.tf we1_82 we1_4 (.tf we1_83 (.vf 105) (.tf we1_84 (.vf 111) (.tf we1_85 (.vf 117) (.tf we1_86 (.vf 123) (.tf we1_87 (.vf 129) (.tf we1_88 (.vf 135) we1_357)))))))))),
  (505789080, 279, (.tf we1_90 we1_2 (.tf we1_91 we1_3 (.tf we1_92 we1_4 (.tf we1_93 (.vf 105) (.tf we1_94 (.vf 111) (.tf we1_95 (.vf 117) (.tf we1_96 (.vf 123) (.tf we1_97 (.vf 129) (.tf we1_98 (.vf 135) we1_357)))))))))),
  (4115795285, 280, (.tf we1_57 we1_2 (.tf we1_58 we1_3 (.tf we1_59 we1_4 (.tf we1_60 (.vf 105) (.tf we1_61 (.vf 111) (.tf we1_62 (.vf 117) (.tf we1_63 (.vf 123) (.tf we1_64 (.vf 129) (.tf we1_65 (.vf 135) (.tf we1_66 we1_357 we1_358))))))))))),
  (4181769230, 281, (.tf we1_69 we1_2 (.tf we1_70 we1_3 (.tf we1_71 we1_4 (.tf we1_72 (.vf 105) (.tf we1_73 (.vf 111) (.tf we1_74 (.vf 117) (.tf we1_75 (.vf 123) (.tf we1_76 (.vf 129) (.tf we1_77 (.vf 135) (.tf we1_78 we1_357 we1_358))))))))))),
  (2310770017, 282, (.tf we1_171 we1_2 (.tf we1_172 we1_3 (.tf we1_173 we1_4 (.tf we1_174 (.vf 105) (.tf we1_175 (.vf 111) (.tf we1_176 (.vf 117) (.tf we1_177 (.vf 123) (.tf we1_178 (.vf 129) (.tf we1_179 (.vf 135) (.tf we1_180 we1_357 (.tf we1_181 we1_358 we1_359)))))))))))),
  (235857711, 283, (.tf we1_184 we1_2 (.tf we1_185 we1_3 (.tf we1_186 we1_4 (.tf we1_187 (.vf 105) (.tf we1_188 (.vf 111) (.tf we1_189 (.vf 117) (.tf we1_190 (.vf 123) (.tf we1_191 (.vf 129) (.tf we1_192 (.vf 135) (.tf we1_193 we1_357 (.tf we1_194 we1_358 we1_359)))))))))))),
  (221593823, 284, (.tf we1_203 we1_2 (.tf we1_204 we1_3 (.tf we1_205 we1_4 (.tf we1_206 (.vf 105) (.tf we1_207 (.vf 111) (.tf we1_208 (.vf 117) (.tf we1_209 (.vf 123) (.tf we1_210 (.vf 129) (.tf we1_211 (.vf 135) (.tf we1_212 we1_357 (.tf we1_213 we1_358 (.tf we1_214 we1_359 we1_360))))))))))))),
  (300762557, 285, (.tf we1_217 we1_2 (.tf we1_218 we1_3 (.tf we1_219 we1_4 (.tf we1_220 (.vf 105) (.tf we1_221 (.vf 111) (.tf we1_222 (.vf 117) (.tf we1_223 (.vf 123) (.tf we1_224 (.vf 129) (.tf we1_225 (.vf 135) (.tf we1_226 we1_357 (.tf we1_227 we1_358 (.tf we1_228 we1_359 we1_360))))))))))))),
  (2143233994, 286, (.tf we1_239 we1_2 (.tf we1_240 we1_3 (.tf we1_241 we1_4 (.tf we1_242 (.vf 105) (.tf we1_243 (.vf 111) (.tf we1_244 (.vf 117) (.tf we1_245 (.vf 123) (.tf we1_246 (.vf 129) (.tf we1_247 (.vf 135) (.tf we1_248 we1_357 (.tf we1_249 we1_358 (.tf we1_250 we1_359 (.tf we1_251 we1_360 we1_361)))))))))))))),
  (81516477, 287, (.tf we1_254 we1_2 (.tf we1_255 we1_3 (.tf we1_256 we1_4 (.tf we1_257 (.vf 105) (.tf we1_258 (.vf 111) (.tf we1_259 (.vf 117) (.tf we1_260 (.vf 123) (.tf we1_261 (.vf 129) (.tf we1_262 (.vf 135) (.tf we1_263 we1_357 (.tf we1_264 we1_358 (.tf we1_265 we1_359 (.tf we1_266 we1_360 we1_361)))))))))))))),
  (4161352337, 288, (.tf we1_80 we1_2 (.tf we1_81 we1_3 (.tf we1_82 we1_4 (.tf we1_83 (.vf 105) (.tf we1_84 (.vf 111) (.tf we1_85 (.vf 117) (.tf we1_86 (.vf 123) (.tf we1_87 (.vf 129) (.tf we1_88 we1_196 we1_362)))))))))),
  (2073245242, 289, (.tf we1_90 we1_2 (.tf we1_91 we1_3 (.tf we1_92 we1_4 (.tf we1_93 (.vf 105) (.tf we1_94 (.vf 111) (.tf we1_95 (.vf 117) (.tf we1_96 (.vf 123) (.tf we1_97 (.vf 129) (.tf we1_98 we1_196 we1_362)))))))))),
  (1419284238, 290, (.tf we1_57 we1_2 (.tf we1_58 we1_3 (.tf we1_59 we1_4 (.tf we1_60 (.vf 105) (.tf we1_61 (.vf 111) (.tf we1_62 (.vf 117) (.tf we1_63 (.vf 123) (.tf we1_64 (.vf 129) (.tf we1_65 we1_196 (.tf we1_66 we1_362 we1_363))))))))))),
  (1485258183, 291, (.tf we1_69 we1_2 (.tf we1_70 we1_3 (.tf we1_71 we1_4 (.tf we1_72 (.vf 105) (.tf we1_73 (.vf 111) (.tf we1_74 (.vf 117) (.tf we1_75 (.vf 123) (.tf we1_76 (.vf 129) (.tf we1_77 we1_196 (.tf we1_78 we1_362 we1_363))))))))))),
  (1000405642, 292, (.tf we1_171 we1_2 (.tf we1_172 we1_3 (.tf we1_173 we1_4 (.tf we1_174 (.vf 105) (.tf we1_175 (.vf 111) (.tf we1_176 (.vf 117) (.tf we1_177 (.vf 123) (.tf we1_178 (.vf 129) (.tf we1_179 we1_196 (.tf we1_180 we1_362 (.tf we1_181 we1_363 we1_364)))))))))))),
  (3220460627, 293, (.tf we1_184 we1_2 (.tf we1_185 we1_3 (.tf we1_186 we1_4 (.tf we1_187 (.vf 105) (.tf we1_188 (.vf 111) (.tf we1_189 (.vf 117) (.tf we1_190 (.vf 123) (.tf we1_191 (.vf 129) (.tf we1_192 we1_196 (.tf we1_193 we1_362 (.tf we1_194 we1_363 we1_364)))))))))))),
  (297376120, 294, (.tf we1_203 we1_2 (.tf we1_204 we1_3 (.tf we1_205 we1_4 (.tf we1_206 (.vf 105) (.tf we1_207 (.vf 111) (.tf we1_208 (.vf 117) (.tf we1_209 (.vf 123) (.tf we1_210 (.vf 129) (.tf we1_211 we1_196 (.tf we1_212 we1_362 (.tf we1_213 we1_363 (.tf we1_214 we1_364 we1_365))))))))))))),
  (376544854, 295, (.tf we1_217 we1_2 (.tf we1_218 we1_3 (.tf we1_219 we1_4 (.tf we1_220 (.vf 105) (.tf we1_221 (.vf 111) (.tf we1_222 (.vf 117) (.tf we1_223 (.vf 123) (.tf we1_224 (.vf 129) (.tf we1_225 we1_196 (.tf we1_226 we1_362 (.tf we1_227 we1_363 (.tf we1_228 we1_364 we1_365))))))))))))),
  (2050998198, 296, (.tf we1_80 we1_2 (.tf we1_81 we1_3 (.tf we1_82 we1_4 (.tf we1_83 (.vf 105) (.tf we1_84 (.vf 111) (.tf we1_85 (.vf 117) (.tf we1_86 (.vf 123) (.tf we1_87 we1_197 (.tf we1_88 we1_233 we1_366)))))))))),
  (4257858394, 297, (.tf we1_90 we1_2 (.tf we1_91 we1_3 (.tf we1_92 we1_4 (.tf we1_93 (.vf 105) (.tf we1_94 (.vf 111) (.tf we1_95 (.vf 117) (.tf we1_96 (.vf 123) (.tf we1_97 we1_197 (.tf we1_98 we1_233 we1_366)))))))))),
  (3633897466, 298, (.tf we1_57 we1_2 (.tf we1_58 we1_3 (.tf we1_59 we1_4 (.tf we1_60 (.vf 105) (.tf we1_61 (.vf 111) (.tf we1_62 (.vf 117) (.tf we1_63 (.vf 123) (.tf we1_64 we1_197 (.tf we1_65 we1_233 (.tf we1_66 we1_366 we1_367))))))))))),
  (3699871411, 299, (.tf we1_69 we1_2 (.tf we1_70 we1_3 (.tf we1_71 we1_4 (.tf we1_72 (.vf 105) (.tf we1_73 (.vf 111) (.tf we1_74 (.vf 117) (.tf we1_75 (.vf 123) (.tf we1_76 we1_197 (.tf we1_77 we1_233 (.tf we1_78 we1_366 we1_367))))))))))),
  (1746955833, 300, (.tf we1_171 we1_2 (.tf we1_172 we1_3 (.tf we1_173 we1_4 (.tf we1_174 (.vf 105) (.tf we1_175 (.vf 111) (.tf we1_176 (.vf 117) (.tf we1_177 (.vf 123) (.tf we1_178 we1_197 (.tf we1_179 we1_233 (.tf we1_180 we1_366 (.tf we1_181 we1_367 we1_368)))))))))))),
  (3967010818, 301, (.tf we1_184 we1_2 (.tf we1_185 we1_3 (.tf we1_186 we1_4 (.tf we1_187 (.vf 105) (.tf we1_188 (.vf 111) (.tf we1_189 (.vf 117) (.tf we1_190 (.vf 123) (.tf we1_191 we1_197 (.tf we1_192 we1_233 (.tf we1_193 we1_366 (.tf we1_194 we1_367 we1_368)))))))))))),
  (3550709355, 302, (.tf we1_80 we1_2 (.tf we1_81 we1_3 (.tf we1_82 we1_4 (.tf we1_83 (.vf 105) (.tf we1_84 (.vf 111) (.tf we1_85 (.vf 117) (.tf we1_86 we1_198 (.tf we1_87 we1_234 (.tf we1_88 we1_274 we1_369)))))))))),
  (1462602260, 303, (.tf we1_90 we1_2 (.tf we1_91 we1_3 (.tf we1_92 we1_4 (.tf we1_93 (.vf 105) (.tf we1_94 (.vf 111) (.tf we1_95 (.vf 117) (.tf we1_96 we1_198 (.tf we1_97 we1_234 (.tf we1_98 we1_274 we1_369)))))))))),
  (1562462992, 304, (.tf we1_57 we1_2 (.tf we1_58 we1_3 (.tf we1_59 we1_4 (.tf we1_60 (.vf 105) (.tf we1_61 (.vf 111) (.tf we1_62 (.vf 117) (.tf we1_63 we1_198 (.tf we1_64 we1_234 (.tf we1_65 we1_274 (.tf we1_66 we1_369 we1_370))))))))))),
  (1628436937, 305, (.tf we1_69 we1_2 (.tf we1_70 we1_3 (.tf we1_71 we1_4 (.tf we1_72 (.vf 105) (.tf we1_73 (.vf 111) (.tf we1_74 (.vf 117) (.tf we1_75 we1_198 (.tf we1_76 we1_234 (.tf we1_77 we1_274 (.tf we1_78 we1_369 we1_370))))))))))),
  (1845068592, 306, (.tf we1_80 we1_2 (.tf we1_81 we1_3 (.tf we1_82 we1_4 (.tf we1_83 (.vf 105) (.tf we1_84 (.vf 111) (.tf we1_85 we1_199 (.tf we1_86 we1_235 (.tf we1_87 we1_275 (.tf we1_88 we1_320 we1_371)))))))))),
  (4051928788, 307, (.tf we1_90 we1_2 (.tf we1_91 we1_3 (.tf we1_92 we1_4 (.tf we1_93 (.vf 105) (.tf we1_94 (.vf 111) (.tf we1_95 we1_199 (.tf we1_96 we1_235 (.tf we1_97 we1_275 (.tf we1_98 we1_320 we1_371)))))))))),
  (2192916490, 308, (.tf we1_100 we1_2 (.tf we1_101 we1_3 (.tf we1_102 we1_4 (.tf we1_103 (.vf 105) (.tf we1_104 we1_200 (.tf we1_105 we1_236 (.tf we1_106 we1_276 (.tf we1_107 we1_321 we1_372))))))))),
  (4202667881, 309, (.tf we1_109 we1_2 (.tf we1_110 we1_3 (.tf we1_111 we1_4 (.tf we1_112 we1_201 (.tf we1_113 we1_237 (.tf we1_114 we1_277 (.tf we1_115 we1_322 we1_373)))))))),
  (2101365997, 310, (.tf we1_117 we1_2 (.tf we1_118 we1_3 (.tf we1_119 we1_4 (.tf we1_120 we1_201 (.tf we1_121 we1_237 (.tf we1_122 we1_277 (.tf we1_123 we1_322 we1_373)))))))),
  (1524962601, 311, (.tf we1_375 we1_2 (.tf we1_376 we1_3 (.tf we1_377 we1_4 (.tf we1_378 (.vf 105) (.tf we1_379 (.vf 111) (.tf we1_380 (.vf 117) (.tf we1_381 (.vf 123) (.tf we1_382 (.vf 129) (.tf we1_383 (.vf 135) (.tf we1_384 (.vf 141) (.tf we1_385 (.vf 147) (.tf we1_386 we1_182 (.tf we1_387 we1_215 (.tf we1_388 we1_252 (.tf we1_389 we1_293 (.tf we1_390 we1_339 we1_391))))))))))))))))),
  (1630520913, 312, (.tf we1_393 we1_2 (.tf we1_394 we1_3 (.tf we1_395 we1_4 (.tf we1_396 (.vf 105) (.tf we1_397 (.vf 111) (.tf we1_398 (.vf 117) (.tf we1_399 (.vf 123) (.tf we1_400 (.vf 129) (.tf we1_401 (.vf 135) (.tf we1_402 (.vf 141) (.tf we1_403 (.vf 147) (.tf we1_404 we1_182 (.tf we1_405 we1_215 (.tf we1_406 we1_252 (.tf we1_407 we1_293 (.tf we1_408 we1_339 we1_391))))))))))))))))),
  (1441816774, 313, (.tf we1_324 we1_2 (.tf we1_325 we1_3 (.tf we1_326 we1_4 (.tf we1_327 (.vf 105) (.tf we1_328 (.vf 111) (.tf we1_329 (.vf 117) (.tf we1_330 (.vf 123) (.tf we1_331 (.vf 129) (.tf we1_332 (.vf 135) (.tf we1_333 (.vf 141) (.tf we1_334 we1_195 (.tf we1_335 we1_229 (.tf we1_336 we1_267 (.tf we1_337 we1_309 (.tf we1_338 we1_356 we1_409)))))))))))))))),
  (3688261337, 314, (.tf we1_341 we1_2 (.tf we1_342 we1_3 (.tf we1_343 we1_4 (.tf we1_344 (.vf 105) (.tf we1_345 (.vf 111) (.tf we1_346 (.vf 117) (.tf we1_347 (.vf 123) (.tf we1_348 (.vf 129) (.tf we1_349 (.vf 135) (.tf we1_350 (.vf 141) (.tf we1_351 we1_195 (.tf we1_352 we1_229 (.tf we1_353 we1_267 (.tf we1_354 we1_309 (.tf we1_355 we1_356 we1_409)))))))))))))))),
  (2599896193, 315, (.tf we1_80 we1_2 (.tf we1_81 we1_3 (.tf we1_82 we1_4 (.tf we1_83 (.vf 105) (.tf we1_84 (.vf 111) (.tf we1_85 (.vf 117) (.tf we1_86 (.vf 123) (.tf we1_87 (.vf 129) (.tf we1_88 (.vf 135) we1_410)))))))))),
  (511789098, 316, (.tf we1_90 we1_2 (.tf we1_91 we1_3 (.tf we1_92 we1_4 (.tf we1_93 (.vf 105) (.tf we1_94 (.vf 111) (.tf we1_95 (.vf 117) (.tf we1_96 (.vf 123) (.tf we1_97 (.vf 129) (.tf we1_98 (.vf 135) we1_410)))))))))),
  (4119489960, 317, (.tf we1_57 we1_2 (.tf we1_58 we1_3 (.tf we1_59 we1_4 (.tf we1_60 (.vf 105) (.tf we1_61 (.vf 111) (.tf we1_62 (.vf 117) (.tf we1_63 (.vf 123) (.tf we1_64 (.vf 129) (.tf we1_65 (.vf 135) (.tf we1_66 we1_410 we1_411))))))))))),
  (4185463905, 318, (.tf we1_69 we1_2 (.tf we1_70 we1_3 (.tf we1_71 we1_4 (.tf we1_72 (.vf 105) (.tf we1_73 (.vf 111) (.tf we1_74 (.vf 117) (.tf we1_75 (.vf 123) (.tf we1_76 (.vf 129) (.tf we1_77 (.vf 135) (.tf we1_78 we1_410 we1_411))))))))))),
  (1430253171, 319, (.tf we1_171 we1_2 (.tf we1_172 we1_3 (.tf we1_173 we1_4 (.tf we1_174 (.vf 105) (.tf we1_175 (.vf 111) (.tf we1_176 (.vf 117) (.tf we1_177 (.vf 123) (.tf we1_178 (.vf 129) (.tf we1_179 (.vf 135) (.tf we1_180 we1_410 (.tf we1_181 we1_411 we1_412)))))))))))),
  (3650308156, 320, (.tf we1_184 we1_2 (.tf we1_185 we1_3 (.tf we1_186 we1_4 (.tf we1_187 (.vf 105) (.tf we1_188 (.vf 111) (.tf we1_189 (.vf 117) (.tf we1_190 (.vf 123) (.tf we1_191 (.vf 129) (.tf we1_192 (.vf 135) (.tf we1_193 we1_410 (.tf we1_194 we1_411 we1_412)))))))))))),
  (2751832747, 321, (.tf we1_203 we1_2 (.tf we1_204 we1_3 (.tf we1_205 we1_4 (.tf we1_206 (.vf 105) (.tf we1_207 (.vf 111) (.tf we1_208 (.vf 117) (.tf we1_209 (.vf 123) (.tf we1_210 (.vf 129) (.tf we1_211 (.vf 135) (.tf we1_212 we1_410 (.tf we1_213 we1_411 (.tf we1_214 we1_412 we1_413))))))))))))),
  (2831001481, 322, (.tf we1_217 we1_2 (.tf we1_218 we1_3 (.tf we1_219 we1_4 (.tf we1_220 (.vf 105) (.tf we1_221 (.vf 111) (.tf we1_222 (.vf 117) (.tf we1_223 (.vf 123) (.tf we1_224 (.vf 129) (.tf we1_225 (.vf 135) (.tf we1_226 we1_410 (.tf we1_227 we1_411 (.tf we1_228 we1_412 we1_413))))))))))))),
  (3789261397, 323, (.tf we1_239 we1_2 (.tf we1_240 we1_3 (.tf we1_241 we1_4 (.tf we1_242 (.vf 105) (.tf we1_243 (.vf 111) (.tf we1_244 (.vf 117) (.tf we1_245 (.vf 123) (.tf we1_246 (.vf 129) (.tf we1_247 (.vf 135) (.tf we1_248 we1_410 (.tf we1_249 we1_411 (.tf we1_250 we1_412 (.tf we1_251 we1_413 we1_414)))))))))))))),
  (1727543880, 324, (.tf we1_254 we1_2 (.tf we1_255 we1_3 (.tf we1_256 we1_4 (.tf we1_257 (.vf 105) (.tf we1_258 (.vf 111) (.tf we1_259 (.vf 117) (.tf we1_260 (.vf 123) (.tf we1_261 (.vf 129) (.tf we1_262 (.vf 135) (.tf we1_263 we1_410 (.tf we1_264 we1_411 (.tf we1_265 we1_412 (.tf we1_266 we1_413 we1_414)))))))))))))),
  (247571830, 325, (.tf we1_279 we1_2 (.tf we1_280 we1_3 (.tf we1_281 we1_4 (.tf we1_282 (.vf 105) (.tf we1_283 (.vf 111) (.tf we1_284 (.vf 117) (.tf we1_285 (.vf 123) (.tf we1_286 (.vf 129) (.tf we1_287 (.vf 135) (.tf we1_288 we1_410 (.tf we1_289 we1_411 (.tf we1_290 we1_412 (.tf we1_291 we1_413 (.tf we1_292 we1_414 we1_415))))))))))))))),
  (339935353, 326, (.tf we1_295 we1_2 (.tf we1_296 we1_3 (.tf we1_297 we1_4 (.tf we1_298 (.vf 105) (.tf we1_299 (.vf 111) (.tf we1_300 (.vf 117) (.tf we1_301 (.vf 123) (.tf we1_302 (.vf 129) (.tf we1_303 (.vf 135) (.tf we1_304 we1_410 (.tf we1_305 we1_411 (.tf we1_306 we1_412 (.tf we1_307 we1_413 (.tf we1_308 we1_414 we1_415))))))))))))))),
  (4167352355, 327, (.tf we1_80 we1_2 (.tf we1_81 we1_3 (.tf we1_82 we1_4 (.tf we1_83 (.vf 105) (.tf we1_84 (.vf 111) (.tf we1_85 (.vf 117) (.tf we1_86 (.vf 123) (.tf we1_87 (.vf 129) (.tf we1_88 we1_196 we1_416)))))))))),
  (2079245260, 328, (.tf we1_90 we1_2 (.tf we1_91 we1_3 (.tf we1_92 we1_4 (.tf we1_93 (.vf 105) (.tf we1_94 (.vf 111) (.tf we1_95 (.vf 117) (.tf we1_96 (.vf 123) (.tf we1_97 (.vf 129) (.tf we1_98 we1_196 we1_416)))))))))),
  (1424978921, 329, (.tf we1_57 we1_2 (.tf we1_58 we1_3 (.tf we1_59 we1_4 (.tf we1_60 (.vf 105) (.tf we1_61 (.vf 111) (.tf we1_62 (.vf 117) (.tf we1_63 (.vf 123) (.tf we1_64 (.vf 129) (.tf we1_65 we1_196 (.tf we1_66 we1_416 we1_417))))))))))),
  (1490952866, 330, (.tf we1_69 we1_2 (.tf we1_70 we1_3 (.tf we1_71 we1_4 (.tf we1_72 (.vf 105) (.tf we1_73 (.vf 111) (.tf we1_74 (.vf 117) (.tf we1_75 (.vf 123) (.tf we1_76 (.vf 129) (.tf we1_77 we1_196 (.tf we1_78 we1_416 we1_417))))))))))),
  (2976098513, 331, (.tf we1_171 we1_2 (.tf we1_172 we1_3 (.tf we1_173 we1_4 (.tf we1_174 (.vf 105) (.tf we1_175 (.vf 111) (.tf we1_176 (.vf 117) (.tf we1_177 (.vf 123) (.tf we1_178 (.vf 129) (.tf we1_179 we1_196 (.tf we1_180 we1_416 (.tf we1_181 we1_417 we1_418)))))))))))),
  (901186207, 332, (.tf we1_184 we1_2 (.tf we1_185 we1_3 (.tf we1_186 we1_4 (.tf we1_187 (.vf 105) (.tf we1_188 (.vf 111) (.tf we1_189 (.vf 117) (.tf we1_190 (.vf 123) (.tf we1_191 (.vf 129) (.tf we1_192 we1_196 (.tf we1_193 we1_416 (.tf we1_194 we1_417 we1_418)))))))))))),
  (4243067179, 333, (.tf we1_203 we1_2 (.tf we1_204 we1_3 (.tf we1_205 we1_4 (.tf we1_206 (.vf 105) (.tf we1_207 (.vf 111) (.tf we1_208 (.vf 117) (.tf we1_209 (.vf 123) (.tf we1_210 (.vf 129) (.tf we1_211 we1_196 (.tf we1_212 we1_416 (.tf we1_213 we1_417 (.tf we1_214 we1_418 we1_419))))))))))))),
  (27268622, 334, (.tf we1_217 we1_2 (.tf we1_218 we1_3 (.tf we1_219 we1_4 (.tf we1_220 (.vf 105) (.tf we1_221 (.vf 111) (.tf we1_222 (.vf 117) (.tf we1_223 (.vf 123) (.tf we1_224 (.vf 129) (.tf we1_225 we1_196 (.tf we1_226 we1_416 (.tf we1_227 we1_417 (.tf we1_228 we1_418 we1_419))))))))))))),
  (930917628, 335, (.tf we1_239 we1_2 (.tf we1_240 we1_3 (.tf we1_241 we1_4 (.tf we1_242 (.vf 105) (.tf we1_243 (.vf 111) (.tf we1_244 (.vf 117) (.tf we1_245 (.vf 123) (.tf we1_246 (.vf 129) (.tf we1_247 we1_196 (.tf we1_248 we1_416 (.tf we1_249 we1_417 (.tf we1_250 we1_418 (.tf we1_251 we1_419 we1_420)))))))))))))),
  (3164167402, 336, (.tf we1_254 we1_2 (.tf we1_255 we1_3 (.tf we1_256 we1_4 (.tf we1_257 (.vf 105) (.tf we1_258 (.vf 111) (.tf we1_259 (.vf 117) (.tf we1_260 (.vf 123) (.tf we1_261 (.vf 129) (.tf we1_262 we1_196 (.tf we1_263 we1_416 (.tf we1_264 we1_417 (.tf we1_265 we1_418 (.tf we1_266 we1_419 we1_420)))))))))))))),
  (2189696793, 337, (.tf we1_80 we1_2 (.tf we1_81 we1_3 (.tf we1_82 we1_4 (.tf we1_83 (.vf 105) (.tf we1_84 (.vf 111) (.tf we1_85 (.vf 117) (.tf we1_86 (.vf 123) (.tf we1_87 we1_197 (.tf we1_88 we1_233 we1_421)))))))))),
  (101589698, 338, (.tf we1_90 we1_2 (.tf we1_91 we1_3 (.tf we1_92 we1_4 (.tf we1_93 (.vf 105) (.tf we1_94 (.vf 111) (.tf we1_95 (.vf 117) (.tf we1_96 (.vf 123) (.tf we1_97 we1_197 (.tf we1_98 we1_233 we1_421)))))))))),
  (1012297861, 339, (.tf we1_57 we1_2 (.tf we1_58 we1_3 (.tf we1_59 we1_4 (.tf we1_60 (.vf 105) (.tf we1_61 (.vf 111) (.tf we1_62 (.vf 117) (.tf we1_63 (.vf 123) (.tf we1_64 we1_197 (.tf we1_65 we1_233 (.tf we1_66 we1_421 we1_422))))))))))),
  (1078271806, 340, (.tf we1_69 we1_2 (.tf we1_70 we1_3 (.tf we1_71 we1_4 (.tf we1_72 (.vf 105) (.tf we1_73 (.vf 111) (.tf we1_74 (.vf 117) (.tf we1_75 (.vf 123) (.tf we1_76 we1_197 (.tf we1_77 we1_233 (.tf we1_78 we1_421 we1_422))))))))))),
  (3949564125, 341, (.tf we1_171 we1_2 (.tf we1_172 we1_3 (.tf we1_173 we1_4 (.tf we1_174 (.vf 105) (.tf we1_175 (.vf 111) (.tf we1_176 (.vf 117) (.tf we1_177 (.vf 123) (.tf we1_178 we1_197 (.tf we1_179 we1_233 (.tf we1_180 we1_421 (.tf we1_181 we1_422 we1_423)))))))))))),
  (1874651819, 342, (.tf we1_184 we1_2 (.tf we1_185 we1_3 (.tf we1_186 we1_4 (.tf we1_187 (.vf 105) (.tf we1_188 (.vf 111) (.tf we1_189 (.vf 117) (.tf we1_190 (.vf 123) (.tf we1_191 we1_197 (.tf we1_192 we1_233 (.tf we1_193 we1_421 (.tf we1_194 we1_422 we1_423)))))))))))),
  (2307712172, 343, (.tf we1_203 we1_2 (.tf we1_204 we1_3 (.tf we1_205 we1_4 (.tf we1_206 (.vf 105) (.tf we1_207 (.vf 111) (.tf we1_208 (.vf 117) (.tf we1_209 (.vf 123) (.tf we1_210 we1_197 (.tf we1_211 we1_233 (.tf we1_212 we1_421 (.tf we1_213 we1_422 (.tf we1_214 we1_423 we1_424))))))))))))),
  (2386880906, 344, (.tf we1_217 we1_2 (.tf we1_218 we1_3 (.tf we1_219 we1_4 (.tf we1_220 (.vf 105) (.tf we1_221 (.vf 111) (.tf we1_222 (.vf 117) (.tf we1_223 (.vf 123) (.tf we1_224 we1_197 (.tf we1_225 we1_233 (.tf we1_226 we1_421 (.tf we1_227 we1_422 (.tf we1_228 we1_423 we1_424))))))))))))),
  (2748414199, 345, (.tf we1_80 we1_2 (.tf we1_81 we1_3 (.tf we1_82 we1_4 (.tf we1_83 (.vf 105) (.tf we1_84 (.vf 111) (.tf we1_85 (.vf 117) (.tf we1_86 we1_198 (.tf we1_87 we1_234 (.tf we1_88 we1_274 we1_425)))))))))),
  (660307104, 346, (.tf we1_90 we1_2 (.tf we1_91 we1_3 (.tf we1_92 we1_4 (.tf we1_93 (.vf 105) (.tf we1_94 (.vf 111) (.tf we1_95 (.vf 117) (.tf we1_96 we1_198 (.tf we1_97 we1_234 (.tf we1_98 we1_274 we1_425)))))))))),
  (3932536496, 347, (.tf we1_57 we1_2 (.tf we1_58 we1_3 (.tf we1_59 we1_4 (.tf we1_60 (.vf 105) (.tf we1_61 (.vf 111) (.tf we1_62 (.vf 117) (.tf we1_63 we1_198 (.tf we1_64 we1_234 (.tf we1_65 we1_274 (.tf we1_66 we1_425 we1_426))))))))))),
  (3998510441, 348, (.tf we1_69 we1_2 (.tf we1_70 we1_3 (.tf we1_71 we1_4 (.tf we1_72 (.vf 105) (.tf we1_73 (.vf 111) (.tf we1_74 (.vf 117) (.tf we1_75 we1_198 (.tf we1_76 we1_234 (.tf we1_77 we1_274 (.tf we1_78 we1_425 we1_426))))))))))),
  (1106772432, 349, (.tf we1_171 we1_2 (.tf we1_172 we1_3 (.tf we1_173 we1_4 (.tf we1_174 (.vf 105) (.tf we1_175 (.vf 111) (.tf we1_176 (.vf 117) (.tf we1_177 we1_198 (.tf we1_178 we1_234 (.tf we1_179 we1_274 (.tf we1_180 we1_425 (.tf we1_181 we1_426 we1_427)))))))))))),
  (3326827417, 350, (.tf we1_184 we1_2 (.tf we1_185 we1_3 (.tf we1_186 we1_4 (.tf we1_187 (.vf 105) (.tf we1_188 (.vf 111) (.tf we1_189 (.vf 117) (.tf we1_190 we1_198 (.tf we1_191 we1_234 (.tf we1_192 we1_274 (.tf we1_193 we1_425 (.tf we1_194 we1_426 we1_427)))))))))))),
  (1042773436, 351, (.tf we1_80 we1_2 (.tf we1_81 we1_3 (.tf we1_82 we1_4 (.tf we1_83 (.vf 105) (.tf we1_84 (.vf 111) (.tf we1_85 we1_199 (.tf we1_86 we1_235 (.tf we1_87 we1_275 (.tf we1_88 we1_320 we1_428)))))))))),
  (3249633632, 352, (.tf we1_90 we1_2 (.tf we1_91 we1_3 (.tf we1_92 we1_4 (.tf we1_93 (.vf 105) (.tf we1_94 (.vf 111) (.tf we1_95 we1_199 (.tf we1_96 we1_235 (.tf we1_97 we1_275 (.tf we1_98 we1_320 we1_428)))))))))),
  (297449675, 353, (.tf we1_57 we1_2 (.tf we1_58 we1_3 (.tf we1_59 we1_4 (.tf we1_60 (.vf 105) (.tf we1_61 (.vf 111) (.tf we1_62 we1_199 (.tf we1_63 we1_235 (.tf we1_64 we1_275 (.tf we1_65 we1_320 (.tf we1_66 we1_428 we1_429))))))))))),
  (363423620, 354, (.tf we1_69 we1_2 (.tf we1_70 we1_3 (.tf we1_71 we1_4 (.tf we1_72 (.vf 105) (.tf we1_73 (.vf 111) (.tf we1_74 we1_199 (.tf we1_75 we1_235 (.tf we1_76 we1_275 (.tf we1_77 we1_320 (.tf we1_78 we1_428 we1_429))))))))))),
  (2753888469, 355, (.tf we1_80 we1_2 (.tf we1_81 we1_3 (.tf we1_82 we1_4 (.tf we1_83 (.vf 105) (.tf we1_84 we1_200 (.tf we1_85 we1_236 (.tf we1_86 we1_276 (.tf we1_87 we1_321 (.tf we1_88 we1_372 we1_430)))))))))),
  (665781374, 356, (.tf we1_90 we1_2 (.tf we1_91 we1_3 (.tf we1_92 we1_4 (.tf we1_93 (.vf 105) (.tf we1_94 we1_200 (.tf we1_95 we1_236 (.tf we1_96 we1_276 (.tf we1_97 we1_321 (.tf we1_98 we1_372 we1_430)))))))))),
  (3337874687, 357, (.tf we1_100 we1_2 (.tf we1_101 we1_3 (.tf we1_102 we1_4 (.tf we1_103 we1_201 (.tf we1_104 we1_237 (.tf we1_105 we1_277 (.tf we1_106 we1_322 (.tf we1_107 we1_373 we1_431))))))))),
  (986157991, 358, (.tf (.ic .eql we1_432 (.li 0)) we1_2 (.tf (.ic .eql we1_432 (.li 1)) we1_3 (.tf (.ic .eql we1_432 (.li 2)) we1_4 (.tf (.ic .eql we1_432 (.li 3)) (.vf 105) (.tf (.ic .eql we1_432 (.li 4)) (.vf 111) (.tf (.ic .eql we1_432 (.li 5)) (.vf 117) (.tf (.ic .eql we1_432 (.li 6)) (.vf 123) (.tf (.ic .eql we1_432 (.li 7)) (.vf 129) (.tf (.ic .eql we1_432 (.li 8)) (.vf 135) (.tf (.ic .eql we1_432 (.li 9)) (.vf 141) (.tf (.ic .eql we1_432 (.li 10)) (.vf 147) (.tf (.ic .eql we1_432 (.li 11)) we1_182 (.tf (.ic .eql we1_432 (.li 12)) we1_215 (.tf (.ic .eql we1_432 (.li 13)) we1_252 (.tf (.ic .eql we1_432 (.li 14)) we1_293 (.tf (.ic .eql we1_432 (.li 15)) we1_339 (.tf (.ic .eql we1_432 (.li 16)) we1_391 we1_433)))))))))))))))))),
  (3245797343, 359, (.tf (.ic .eql we1_434 (.li 0)) we1_2 (.tf (.ic .eql we1_434 (.li 1)) we1_3 (.tf (.ic .eql we1_434 (.li 2)) we1_4 (.tf (.ic .eql we1_434 (.li 3)) (.vf 105) (.tf (.ic .eql we1_434 (.li 4)) (.vf 111) (.tf (.ic .eql we1_434 (.li 5)) (.vf 117) (.tf (.ic .eql we1_434 (.li 6)) (.vf 123) (.tf (.ic .eql we1_434 (.li 7)) (.vf 129) (.tf (.ic .eql we1_434 (.li 8)) (.vf 135) (.tf (.ic .eql we1_434 (.li 9)) (.vf 141) (.tf (.ic .eql we1_434 (.li 10)) (.vf 147) (.tf (.ic .eql we1_434 (.li 11)) we1_182 (.tf (.ic .eql we1_434 (.li 12)) we1_215 (.tf (.ic .eql we1_434 (.li 13)) we1_252 (.tf (.ic .eql we1_434 (.li 14)) we1_293 (.tf (.ic .eql we1_434 (.li 15)) we1_339 (.tf (.ic .eql we1_434 (.li 16)) we1_391 we1_433)))))))))))))))))),
  (2600615217, 360, (.tf we1_375 we1_2 (.tf we1_376 we1_3 (.tf we1_377 we1_4 (.tf we1_378 (.vf 105) (.tf we1_379 (.vf 111) (.tf we1_380 (.vf 117) (.tf we1_381 (.vf 123) (.tf we1_382 (.vf 129) (.tf we1_383 (.vf 135) (.tf we1_384 (.vf 141) (.tf we1_385 we1_195 (.tf we1_386 we1_229 (.tf we1_387 we1_267 (.tf we1_388 we1_309 (.tf we1_389 we1_356 (.tf we1_390 we1_409 we1_435))))))))))))))))),
  (2706173529, 361, (.tf we1_393 we1_2 (.tf we1_394 we1_3 (.tf we1_395 we1_4 (.tf we1_396 (.vf 105) (.tf we1_397 (.vf 111) (.tf we1_398 (.vf 117) (.tf we1_399 (.vf 123) (.tf we1_400 (.vf 129) (.tf we1_401 (.vf 135) (.tf we1_402 (.vf 141) (.tf we1_403 we1_195 (.tf we1_404 we1_229 (.tf we1_405 we1_267 (.tf we1_406 we1_309 (.tf we1_407 we1_356 (.tf we1_408 we1_409 we1_435))))))))))))))))),
  (2605896211, 362, (.tf we1_80 we1_2 (.tf we1_81 we1_3 (.tf we1_82 we1_4 (.tf we1_83 (.vf 105) (.tf we1_84 (.vf 111) (.tf we1_85 (.vf 117) (.tf we1_86 (.vf 123) (.tf we1_87 (.vf 129) (.tf we1_88 (.vf 135) we1_436)))))))))),
  (517789116, 363, (.tf we1_90 we1_2 (.tf we1_91 we1_3 (.tf we1_92 we1_4 (.tf we1_93 (.vf 105) (.tf we1_94 (.vf 111) (.tf we1_95 (.vf 117) (.tf we1_96 (.vf 123) (.tf we1_97 (.vf 129) (.tf we1_98 (.vf 135) we1_436)))))))))),
  (4133184675, 364, (.tf we1_57 we1_2 (.tf we1_58 we1_3 (.tf we1_59 we1_4 (.tf we1_60 (.vf 105) (.tf we1_61 (.vf 111) (.tf we1_62 (.vf 117) (.tf we1_63 (.vf 123) (.tf we1_64 (.vf 129) (.tf we1_65 (.vf 135) (.tf we1_66 we1_436 we1_437))))))))))),
  (4199158620, 365, (.tf we1_69 we1_2 (.tf we1_70 we1_3 (.tf we1_71 we1_4 (.tf we1_72 (.vf 105) (.tf we1_73 (.vf 111) (.tf we1_74 (.vf 117) (.tf we1_75 (.vf 123) (.tf we1_76 (.vf 129) (.tf we1_77 (.vf 135) (.tf we1_78 we1_436 we1_437))))))))))),
  (1945883037, 366, (.tf we1_171 we1_2 (.tf we1_172 we1_3 (.tf we1_173 we1_4 (.tf we1_174 (.vf 105) (.tf we1_175 (.vf 111) (.tf we1_176 (.vf 117) (.tf we1_177 (.vf 123) (.tf we1_178 (.vf 129) (.tf we1_179 (.vf 135) (.tf we1_180 we1_436 (.tf we1_181 we1_437 we1_438)))))))))))),
  (4165938022, 367, (.tf we1_184 we1_2 (.tf we1_185 we1_3 (.tf we1_186 we1_4 (.tf we1_187 (.vf 105) (.tf we1_188 (.vf 111) (.tf we1_189 (.vf 117) (.tf we1_190 (.vf 123) (.tf we1_191 (.vf 129) (.tf we1_192 (.vf 135) (.tf we1_193 we1_436 (.tf we1_194 we1_437 we1_438)))))))))))),
  (3769397764, 368, (.tf we1_203 we1_2 (.tf we1_204 we1_3 (.tf we1_205 we1_4 (.tf we1_206 (.vf 105) (.tf we1_207 (.vf 111) (.tf we1_208 (.vf 117) (.tf we1_209 (.vf 123) (.tf we1_210 (.vf 129) (.tf we1_211 (.vf 135) (.tf we1_212 we1_436 (.tf we1_213 we1_437 (.tf we1_214 we1_438 we1_439))))))))))))),
  (3848566498, 369, (.tf we1_217 we1_2 (.tf we1_218 we1_3 (.tf we1_219 we1_4 (.tf we1_220 (.vf 105) (.tf we1_221 (.vf 111) (.tf we1_222 (.vf 117) (.tf we1_223 (.vf 123) (.tf we1_224 (.vf 129) (.tf we1_225 (.vf 135) (.tf we1_226 we1_436 (.tf we1_227 we1_437 (.tf we1_228 we1_438 we1_439))))))))))))),
  (1013794274, 370, (.tf we1_239 we1_2 (.tf we1_240 we1_3 (.tf we1_241 we1_4 (.tf we1_242 (.vf 105) (.tf we1_243 (.vf 111) (.tf we1_244 (.vf 117) (.tf we1_245 (.vf 123) (.tf we1_246 (.vf 129) (.tf we1_247 (.vf 135) (.tf we1_248 we1_436 (.tf we1_249 we1_437 (.tf we1_250 we1_438 (.tf we1_251 we1_439 we1_440)))))))))))))),
  (3247044048, 371, (.tf we1_254 we1_2 (.tf we1_255 we1_3 (.tf we1_256 we1_4 (.tf we1_257 (.vf 105) (.tf we1_258 (.vf 111) (.tf we1_259 (.vf 117) (.tf we1_260 (.vf 123) (.tf we1_261 (.vf 129) (.tf we1_262 (.vf 135) (.tf we1_263 we1_436 (.tf we1_264 we1_437 (.tf we1_265 we1_438 (.tf we1_266 we1_439 we1_440)))))))))))))),
  (2269007149, 372, (.tf we1_279 we1_2 (.tf we1_280 we1_3 (.tf we1_281 we1_4 (.tf we1_282 (.vf 105) (.tf we1_283 (.vf 111) (.tf we1_284 (.vf 117) (.tf we1_285 (.vf 123) (.tf we1_286 (.vf 129) (.tf we1_287 (.vf 135) (.tf we1_288 we1_436 (.tf we1_289 we1_437 (.tf we1_290 we1_438 (.tf we1_291 we1_439 (.tf we1_292 we1_440 we1_441))))))))))))))),
  (2361370672, 373, (.tf we1_295 we1_2 (.tf we1_296 we1_3 (.tf we1_297 we1_4 (.tf we1_298 (.vf 105) (.tf we1_299 (.vf 111) (.tf we1_300 (.vf 117) (.tf we1_301 (.vf 123) (.tf we1_302 (.vf 129) (.tf we1_303 (.vf 135) (.tf we1_304 we1_436 (.tf we1_305 we1_437 (.tf we1_306 we1_438 (.tf we1_307 we1_439 (.tf we1_308 we1_440 we1_441))))))))))))))),
  (3240069098, 374, (.tf we1_324 we1_2 (.tf we1_325 we1_3 (.tf we1_326 we1_4 (.tf we1_327 (.vf 105) (.tf we1_328 (.vf 111) (.tf we1_329 (.vf 117) (.tf we1_330 (.vf 123) (.tf we1_331 (.vf 129) (.tf we1_332 (.vf 135) (.tf we1_333 we1_436 (.tf we1_334 we1_437 (.tf we1_335 we1_438 (.tf we1_336 we1_439 (.tf we1_337 we1_440 (.tf we1_338 we1_441 we1_442)))))))))))))))),
  (1191546370, 375, (.tf we1_341 we1_2 (.tf we1_342 we1_3 (.tf we1_343 we1_4 (.tf we1_344 (.vf 105) (.tf we1_345 (.vf 111) (.tf we1_346 (.vf 117) (.tf we1_347 (.vf 123) (.tf we1_348 (.vf 129) (.tf we1_349 (.vf 135) (.tf we1_350 we1_436 (.tf we1_351 we1_437 (.tf we1_352 we1_438 (.tf we1_353 we1_439 (.tf we1_354 we1_440 (.tf we1_355 we1_441 we1_442)))))))))))))))),
  (1445841223, 376, (.tf we1_80 we1_2 (.tf we1_81 we1_3 (.tf we1_82 we1_4 (.tf we1_83 (.vf 105) (.tf we1_84 (.vf 111) (.tf we1_85 (.vf 117) (.tf we1_86 (.vf 123) (.tf we1_87 (.vf 129) (.tf we1_88 we1_196 we1_443)))))))))),
  (3652701419, 377, (.tf we1_90 we1_2 (.tf we1_91 we1_3 (.tf we1_92 we1_4 (.tf we1_93 (.vf 105) (.tf we1_94 (.vf 111) (.tf we1_95 (.vf 117) (.tf we1_96 (.vf 123) (.tf we1_97 (.vf 129) (.tf we1_98 we1_196 we1_443)))))))))),
  (1086289744, 378, (.tf we1_57 we1_2 (.tf we1_58 we1_3 (.tf we1_59 we1_4 (.tf we1_60 (.vf 105) (.tf we1_61 (.vf 111) (.tf we1_62 (.vf 117) (.tf we1_63 (.vf 123) (.tf we1_64 (.vf 129) (.tf we1_65 we1_196 (.tf we1_66 we1_443 we1_444))))))))))),
  (1152263689, 379, (.tf we1_69 we1_2 (.tf we1_70 we1_3 (.tf we1_71 we1_4 (.tf we1_72 (.vf 105) (.tf we1_73 (.vf 111) (.tf we1_74 (.vf 117) (.tf we1_75 (.vf 123) (.tf we1_76 (.vf 129) (.tf we1_77 we1_196 (.tf we1_78 we1_443 we1_444))))))))))),
  (1698586905, 380, (.tf we1_171 we1_2 (.tf we1_172 we1_3 (.tf we1_173 we1_4 (.tf we1_174 (.vf 105) (.tf we1_175 (.vf 111) (.tf we1_176 (.vf 117) (.tf we1_177 (.vf 123) (.tf we1_178 (.vf 129) (.tf we1_179 we1_196 (.tf we1_180 we1_443 (.tf we1_181 we1_444 we1_445)))))))))))),
  (3918641890, 381, (.tf we1_184 we1_2 (.tf we1_185 we1_3 (.tf we1_186 we1_4 (.tf we1_187 (.vf 105) (.tf we1_188 (.vf 111) (.tf we1_189 (.vf 117) (.tf we1_190 (.vf 123) (.tf we1_191 (.vf 129) (.tf we1_192 we1_196 (.tf we1_193 we1_443 (.tf we1_194 we1_444 we1_445)))))))))))),
  (2026733140, 382, (.tf we1_203 we1_2 (.tf we1_204 we1_3 (.tf we1_205 we1_4 (.tf we1_206 (.vf 105) (.tf we1_207 (.vf 111) (.tf we1_208 (.vf 117) (.tf we1_209 (.vf 123) (.tf we1_210 (.vf 129) (.tf we1_211 we1_196 (.tf we1_212 we1_443 (.tf we1_213 we1_444 (.tf we1_214 we1_445 we1_446))))))))))))),
  (2105901874, 383, (.tf we1_217 we1_2 (.tf we1_218 we1_3 (.tf we1_219 we1_4 (.tf we1_220 (.vf 105) (.tf we1_221 (.vf 111) (.tf we1_222 (.vf 117) (.tf we1_223 (.vf 123) (.tf we1_224 (.vf 129) (.tf we1_225 we1_196 (.tf we1_226 we1_443 (.tf we1_227 we1_444 (.tf we1_228 we1_445 we1_446))))))))))))),
  (2070728449, 384, (.tf we1_239 we1_2 (.tf we1_240 we1_3 (.tf we1_241 we1_4 (.tf we1_242 (.vf 105) (.tf we1_243 (.vf 111) (.tf we1_244 (.vf 117) (.tf we1_245 (.vf 123) (.tf we1_246 (.vf 129) (.tf we1_247 we1_196 (.tf we1_248 we1_443 (.tf we1_249 we1_444 (.tf we1_250 we1_445 (.tf we1_251 we1_446 we1_447)))))))))))))),
  (9010932, 385, (.tf we1_254 we1_2 (.tf we1_255 we1_3 (.tf we1_256 we1_4 (.tf we1_257 (.vf 105) (.tf we1_258 (.vf 111) (.tf we1_259 (.vf 117) (.tf we1_260 (.vf 123) (.tf we1_261 (.vf 129) (.tf we1_262 we1_196 (.tf we1_263 we1_443 (.tf we1_264 we1_444 (.tf we1_265 we1_445 (.tf we1_266 we1_446 we1_447)))))))))))))),
  (1830572832, 386, (.tf we1_279 we1_2 (.tf we1_280 we1_3 (.tf we1_281 we1_4 (.tf we1_282 (.vf 105) (.tf we1_283 (.vf 111) (.tf we1_284 (.vf 117) (.tf we1_285 (.vf 123) (.tf we1_286 (.vf 129) (.tf we1_287 we1_196 (.tf we1_288 we1_443 (.tf we1_289 we1_444 (.tf we1_290 we1_445 (.tf we1_291 we1_446 (.tf we1_292 we1_447 we1_448))))))))))))))),
  (1922936355, 387, (.tf we1_295 we1_2 (.tf we1_296 we1_3 (.tf we1_297 we1_4 (.tf we1_298 (.vf 105) (.tf we1_299 (.vf 111) (.tf we1_300 (.vf 117) (.tf we1_301 (.vf 123) (.tf we1_302 (.vf 129) (.tf we1_303 we1_196 (.tf we1_304 we1_443 (.tf we1_305 we1_444 (.tf we1_306 we1_445 (.tf we1_307 we1_446 (.tf we1_308 we1_447 we1_448))))))))))))))),
  (1387401637, 388, (.tf we1_80 we1_2 (.tf we1_81 we1_3 (.tf we1_82 we1_4 (.tf we1_83 (.vf 105) (.tf we1_84 (.vf 111) (.tf we1_85 (.vf 117) (.tf we1_86 (.vf 123) (.tf we1_87 we1_197 (.tf we1_88 we1_233 we1_449)))))))))),
  (3594261833, 389, (.tf we1_90 we1_2 (.tf we1_91 we1_3 (.tf we1_92 we1_4 (.tf we1_93 (.vf 105) (.tf we1_94 (.vf 111) (.tf we1_95 (.vf 117) (.tf we1_96 (.vf 123) (.tf we1_97 we1_197 (.tf we1_98 we1_233 we1_449)))))))))),
  (3390371397, 390, (.tf we1_57 we1_2 (.tf we1_58 we1_3 (.tf we1_59 we1_4 (.tf we1_60 (.vf 105) (.tf we1_61 (.vf 111) (.tf we1_62 (.vf 117) (.tf we1_63 (.vf 123) (.tf we1_64 we1_197 (.tf we1_65 we1_233 (.tf we1_66 we1_449 we1_450))))))))))),
  (3456345342, 391, (.tf we1_69 we1_2 (.tf we1_70 we1_3 (.tf we1_71 we1_4 (.tf we1_72 (.vf 105) (.tf we1_73 (.vf 111) (.tf we1_74 (.vf 117) (.tf we1_75 (.vf 123) (.tf we1_76 we1_197 (.tf we1_77 we1_233 (.tf we1_78 we1_449 we1_450))))))))))),
  (3948057648, 392, (.tf we1_171 we1_2 (.tf we1_172 we1_3 (.tf we1_173 we1_4 (.tf we1_174 (.vf 105) (.tf we1_175 (.vf 111) (.tf we1_176 (.vf 117) (.tf we1_177 (.vf 123) (.tf we1_178 we1_197 (.tf we1_179 we1_233 (.tf we1_180 we1_449 (.tf we1_181 we1_450 we1_451)))))))))))),
  (1873145342, 393, (.tf we1_184 we1_2 (.tf we1_185 we1_3 (.tf we1_186 we1_4 (.tf we1_187 (.vf 105) (.tf we1_188 (.vf 111) (.tf we1_189 (.vf 117) (.tf we1_190 (.vf 123) (.tf we1_191 we1_197 (.tf we1_192 we1_233 (.tf we1_193 we1_449 (.tf we1_194 we1_450 we1_451)))))))))))),
  (4221592973, 394, (.tf we1_203 we1_2 (.tf we1_204 we1_3 (.tf we1_205 we1_4 (.tf we1_206 (.vf 105) (.tf we1_207 (.vf 111) (.tf we1_208 (.vf 117) (.tf we1_209 (.vf 123) (.tf we1_210 we1_197 (.tf we1_211 we1_233 (.tf we1_212 we1_449 (.tf we1_213 we1_450 (.tf we1_214 we1_451 we1_452))))))))))))),
  (5794416, 395, (.tf we1_217 we1_2 (.tf we1_218 we1_3 (.tf we1_219 we1_4 (.tf we1_220 (.vf 105) (.tf we1_221 (.vf 111) (.tf we1_222 (.vf 117) (.tf we1_223 (.vf 123) (.tf we1_224 we1_197 (.tf we1_225 we1_233 (.tf we1_226 we1_449 (.tf we1_227 we1_450 (.tf we1_228 we1_451 we1_452))))))))))))),
  (4210977372, 396, (.tf we1_239 we1_2 (.tf we1_240 we1_3 (.tf we1_241 we1_4 (.tf we1_242 (.vf 105) (.tf we1_243 (.vf 111) (.tf we1_244 (.vf 117) (.tf we1_245 (.vf 123) (.tf we1_246 we1_197 (.tf we1_247 we1_233 (.tf we1_248 we1_449 (.tf we1_249 we1_450 (.tf we1_250 we1_451 (.tf we1_251 we1_452 we1_453)))))))))))))),
  (2149259855, 397, (.tf we1_254 we1_2 (.tf we1_255 we1_3 (.tf we1_256 we1_4 (.tf we1_257 (.vf 105) (.tf we1_258 (.vf 111) (.tf we1_259 (.vf 117) (.tf we1_260 (.vf 123) (.tf we1_261 we1_197 (.tf we1_262 we1_233 (.tf we1_263 we1_449 (.tf we1_264 we1_450 (.tf we1_265 we1_451 (.tf we1_266 we1_452 we1_453)))))))))))))),
  (1946119043, 398, (.tf we1_80 we1_2 (.tf we1_81 we1_3 (.tf we1_82 we1_4 (.tf we1_83 (.vf 105) (.tf we1_84 (.vf 111) (.tf we1_85 (.vf 117) (.tf we1_86 we1_198 (.tf we1_87 we1_234 (.tf we1_88 we1_274 we1_454)))))))))),
  (4152979239, 399, (.tf we1_90 we1_2 (.tf we1_91 we1_3 (.tf we1_92 we1_4 (.tf we1_93 (.vf 105) (.tf we1_94 (.vf 111) (.tf we1_95 (.vf 117) (.tf we1_96 we1_198 (.tf we1_97 we1_234 (.tf we1_98 we1_274 we1_454)))))))))),
  (2017642749, 400, (.tf we1_57 we1_2 (.tf we1_58 we1_3 (.tf we1_59 we1_4 (.tf we1_60 (.vf 105) (.tf we1_61 (.vf 111) (.tf we1_62 (.vf 117) (.tf we1_63 we1_198 (.tf we1_64 we1_234 (.tf we1_65 we1_274 (.tf we1_66 we1_454 we1_455))))))))))),
  (2083616694, 401, (.tf we1_69 we1_2 (.tf we1_70 we1_3 (.tf we1_71 we1_4 (.tf we1_72 (.vf 105) (.tf we1_73 (.vf 111) (.tf we1_74 (.vf 117) (.tf we1_75 we1_198 (.tf we1_76 we1_234 (.tf we1_77 we1_274 (.tf we1_78 we1_454 we1_455))))))))))),
  (3961475672, 402, (.tf we1_171 we1_2 (.tf we1_172 we1_3 (.tf we1_173 we1_4 (.tf we1_174 (.vf 105) (.tf we1_175 (.vf 111) (.tf we1_176 (.vf 117) (.tf we1_177 we1_198 (.tf we1_178 we1_234 (.tf we1_179 we1_274 (.tf we1_180 we1_454 (.tf we1_181 we1_455 we1_456)))))))))))),
  (1886563366, 403, (.tf we1_184 we1_2 (.tf we1_185 we1_3 (.tf we1_186 we1_4 (.tf we1_187 (.vf 105) (.tf we1_188 (.vf 111) (.tf we1_189 (.vf 117) (.tf we1_190 we1_198 (.tf we1_191 we1_234 (.tf we1_192 we1_274 (.tf we1_193 we1_454 (.tf we1_194 we1_455 we1_456)))))))))))),
  (1326190378, 404, (.tf we1_203 we1_2 (.tf we1_204 we1_3 (.tf we1_205 we1_4 (.tf we1_206 (.vf 105) (.tf we1_207 (.vf 111) (.tf we1_208 (.vf 117) (.tf we1_209 we1_198 (.tf we1_210 we1_234 (.tf we1_211 we1_274 (.tf we1_212 we1_454 (.tf we1_213 we1_455 (.tf we1_214 we1_456 we1_457))))))))))))),
  (1405359112, 405, (.tf we1_217 we1_2 (.tf we1_218 we1_3 (.tf we1_219 we1_4 (.tf we1_220 (.vf 105) (.tf we1_221 (.vf 111) (.tf we1_222 (.vf 117) (.tf we1_223 we1_198 (.tf we1_224 we1_234 (.tf we1_225 we1_274 (.tf we1_226 we1_454 (.tf we1_227 we1_455 (.tf we1_228 we1_456 we1_457))))))))))))),
  (1653930407, 406, (.tf we1_80 we1_2 (.tf we1_81 we1_3 (.tf we1_82 we1_4 (.tf we1_83 (.vf 105) (.tf we1_84 (.vf 111) (.tf we1_85 we1_199 (.tf we1_86 we1_235 (.tf we1_87 we1_275 (.tf we1_88 we1_320 we1_458)))))))))),
  (3860790603, 407, (.tf we1_90 we1_2 (.tf we1_91 we1_3 (.tf we1_92 we1_4 (.tf we1_93 (.vf 105) (.tf we1_94 (.vf 111) (.tf we1_95 we1_199 (.tf we1_96 we1_235 (.tf we1_97 we1_275 (.tf we1_98 we1_320 we1_458)))))))))),
  (2491280672, 408, (.tf we1_57 we1_2 (.tf we1_58 we1_3 (.tf we1_59 we1_4 (.tf we1_60 (.vf 105) (.tf we1_61 (.vf 111) (.tf we1_62 we1_199 (.tf we1_63 we1_235 (.tf we1_64 we1_275 (.tf we1_65 we1_320 (.tf we1_66 we1_458 we1_459))))))))))),
  (2557254617, 409, (.tf we1_69 we1_2 (.tf we1_70 we1_3 (.tf we1_71 we1_4 (.tf we1_72 (.vf 105) (.tf we1_73 (.vf 111) (.tf we1_74 we1_199 (.tf we1_75 we1_235 (.tf we1_76 we1_275 (.tf we1_77 we1_320 (.tf we1_78 we1_458 we1_459))))))))))),
  (2967050558, 410, (.tf we1_171 we1_2 (.tf we1_172 we1_3 (.tf we1_173 we1_4 (.tf we1_174 (.vf 105) (.tf we1_175 (.vf 111) (.tf we1_176 we1_199 (.tf we1_177 we1_235 (.tf we1_178 we1_275 (.tf we1_179 we1_320 (.tf we1_180 we1_458 (.tf we1_181 we1_459 we1_460)))))))))))),
  (892138252, 411, (.tf we1_184 we1_2 (.tf we1_185 we1_3 (.tf we1_186 we1_4 (.tf we1_187 (.vf 105) (.tf we1_188 (.vf 111) (.tf we1_189 we1_199 (.tf we1_190 we1_235 (.tf we1_191 we1_275 (.tf we1_192 we1_320 (.tf we1_193 we1_458 (.tf we1_194 we1_459 we1_460)))))))))))),
  (3337739985, 412, (.tf we1_80 we1_2 (.tf we1_81 we1_3 (.tf we1_82 we1_4 (.tf we1_83 (.vf 105) (.tf we1_84 we1_200 (.tf we1_85 we1_236 (.tf we1_86 we1_276 (.tf we1_87 we1_321 (.tf we1_88 we1_372 we1_461)))))))))),
  (1249632890, 413, (.tf we1_90 we1_2 (.tf we1_91 we1_3 (.tf we1_92 we1_4 (.tf we1_93 (.vf 105) (.tf we1_94 we1_200 (.tf we1_95 we1_236 (.tf we1_96 we1_276 (.tf we1_97 we1_321 (.tf we1_98 we1_372 we1_461)))))))))),
  (2544374794, 414, (.tf we1_57 we1_2 (.tf we1_58 we1_3 (.tf we1_59 we1_4 (.tf we1_60 (.vf 105) (.tf we1_61 we1_200 (.tf we1_62 we1_236 (.tf we1_63 we1_276 (.tf we1_64 we1_321 (.tf we1_65 we1_372 (.tf we1_66 we1_461 we1_462))))))))))),
  (2610348739, 415, (.tf we1_69 we1_2 (.tf we1_70 we1_3 (.tf we1_71 we1_4 (.tf we1_72 (.vf 105) (.tf we1_73 we1_200 (.tf we1_74 we1_236 (.tf we1_75 we1_276 (.tf we1_76 we1_321 (.tf we1_77 we1_372 (.tf we1_78 we1_461 we1_462))))))))))),
  (4088727160, 416, (.tf we1_80 we1_2 (.tf we1_81 we1_3 (.tf we1_82 we1_4 (.tf we1_83 we1_201 (.tf we1_84 we1_237 (.tf we1_85 we1_277 (.tf we1_86 we1_322 (.tf we1_87 we1_373 (.tf we1_88 we1_431 we1_463)))))))))),
  (2000620065, 417, (.tf we1_90 we1_2 (.tf we1_91 we1_3 (.tf we1_92 we1_4 (.tf we1_93 we1_201 (.tf we1_94 we1_237 (.tf we1_95 we1_277 (.tf we1_96 we1_322 (.tf we1_97 we1_373 (.tf we1_98 we1_431 we1_463))))))))))]
set_option maxRecDepth 1000000 in
set_option maxHeartbeats 100000000 in
theorem wG1 : tabGood 100 wN1 = true := by kernel_rfl
end Go.Proofs.Yticbgaflhiokgaa
