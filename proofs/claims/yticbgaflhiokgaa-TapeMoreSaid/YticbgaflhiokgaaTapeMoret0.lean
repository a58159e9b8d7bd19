/-
  'TapeMore': what names stand for, where the first rest is 0.
-/
import Derived.Test.YticbgaflhiokgaaM3n
namespace Go.Proofs.Yticbgaflhiokgaa
open Go.RowKit Ex
def we0_0 : E := (.ic .eql (.ai 9 0 (.ci (.at 1 0) (.ci (.li 11) .n0))) (.li 0))
def we0_1 : E := (.fb .quo (.i2f (.ib .sub .i64 (.ai 9 0 (.ci (.ti (.ic .lss (.li 0) (.vl 3)) (.at 3 0) (.li 0)) (.ci (.li 65) .n0))) (.li 32))) (.lf 4620693217682128896))
def we0_2 : E := (.fb .quo (.i2f (.ib .sub .i64 (.ai 9 0 (.ci (.vi 0) (.ci (.li 17) .n0))) (.li 8))) (.lf 4616189618054758400))
def we0_3 : E := (.tf (.ic .eql (.ti we0_0 (.li 0) (.ai 9 0 (.ci (.ib .quo .i64 (.at 1 0) (.li 4)) (.ci (.li 2) .n0)))) (.li 0)) we0_1 we0_2)
def we0_4 : E := (.tf (.ic .eql (.ti we0_0 (.li 0) (.ai 9 0 (.ci (.ib .quo .i64 (.at 1 0) (.li 40)) (.ci (.li 2) .n0)))) (.li 0)) we0_1 we0_2)
def we0_5 : E := (.ib .add .i64 (.li 2) (.ai 9 0 (.ci (.at 1 0) (.ci (.li 3) .n0))))
def we0_6 : E := (.ic .eql (.ai 9 0 (.ci (.at 1 1) (.ci (.li 11) .n0))) (.li 0))
def we0_7 : E := (.ti we0_6 (.li 0) (.ai 9 0 (.ci (.ib .quo .i64 (.at 1 1) (.li 4)) (.ci (.li 3) .n0))))
def we0_8 : E := (.ti we0_6 (.li 0) (.ai 9 0 (.ci (.ib .quo .i64 (.at 1 1) (.li 40)) (.ci (.li 3) .n0))))
def we0_9 : E := (.ib .add .i64 (.li 2) (.ai 9 0 (.ci (.at 1 1) (.ci (.li 3) .n0))))
def we0_10 : E := (.ic .eql (.ai 9 0 (.ci (.at 1 2) (.ci (.li 11) .n0))) (.li 0))
def we0_11 : E := (.ti we0_10 (.li 0) (.ai 9 0 (.ci (.ib .quo .i64 (.at 1 2) (.li 4)) (.ci (.li 4) .n0))))
def we0_12 : E := (.ti we0_10 (.li 0) (.ai 9 0 (.ci (.ib .quo .i64 (.at 1 2) (.li 40)) (.ci (.li 4) .n0))))
def we0_13 : E := (.ib .add .i64 (.li 2) (.ai 9 0 (.ci (.at 1 2) (.ci (.li 3) .n0))))
def we0_14 : E := (.ic .eql (.ai 9 0 (.ci (.at 1 3) (.ci (.li 11) .n0))) (.li 0))
def we0_15 : E := (.ti we0_14 (.li 0) (.ai 9 0 (.ci (.ib .quo .i64 (.at 1 3) (.li 4)) (.ci (.li 5) .n0))))
def we0_16 : E := (.ti we0_14 (.li 0) (.ai 9 0 (.ci (.ib .quo .i64 (.at 1 3) (.li 40)) (.ci (.li 5) .n0))))
def we0_17 : E := (.ib .add .i64 (.li 2) (.ai 9 0 (.ci (.at 1 3) (.ci (.li 3) .n0))))
def we0_18 : E := (.ic .eql (.ai 9 0 (.ci (.at 1 4) (.ci (.li 11) .n0))) (.li 0))
def we0_19 : E := (.ti we0_18 (.li 0) (.ai 9 0 (.ci (.ib .quo .i64 (.at 1 4) (.li 4)) (.ci (.li 6) .n0))))
def we0_20 : E := (.ti we0_18 (.li 0) (.ai 9 0 (.ci (.ib .quo .i64 (.at 1 4) (.li 40)) (.ci (.li 6) .n0))))
def we0_21 : E := (.ib .add .i64 (.li 2) (.ai 9 0 (.ci (.at 1 4) (.ci (.li 3) .n0))))
def we0_22 : E := (.ic .eql (.ai 9 0 (.ci (.at 1 5) (.ci (.li 11) .n0))) (.li 0))
def we0_23 : E := (.ti we0_22 (.li 0) (.ai 9 0 (.ci (.ib .quo .i64 (.at 1 5) (.li 4)) (.ci (.li 7) .n0))))
def we0_24 : E := (.ti we0_22 (.li 0) (.ai 9 0 (.ci (.ib .quo .i64 (.at 1 5) (.li 40)) (.ci (.li 7) .n0))))
def we0_25 : E := (.ib .add .i64 (.li 2) (.ai 9 0 (.ci (.at 1 5) (.ci (.li 3) .n0))))
def we0_26 : E := (.ic .eql (.ai 9 0 (.ci (.at 1 6) (.ci (.li 11) .n0))) (.li 0))
def we0_27 : E := (.ti we0_26 (.li 0) (.ai 9 0 (.ci (.ib .quo .i64 (.at 1 6) (.li 4)) (.ci (.li 8) .n0))))
def we0_28 : E := (.ti we0_26 (.li 0) (.ai 9 0 (.ci (.ib .quo .i64 (.at 1 6) (.li 40)) (.ci (.li 8) .n0))))
def we0_29 : E := (.ib .add .i64 (.li 2) (.ai 9 0 (.ci (.at 1 6) (.ci (.li 3) .n0))))
def we0_30 : E := (.ic .eql (.ai 9 0 (.ci (.at 1 7) (.ci (.li 11) .n0))) (.li 0))
def we0_31 : E := (.ti we0_30 (.li 0) (.ai 9 0 (.ci (.ib .quo .i64 (.at 1 7) (.li 4)) (.ci (.li 9) .n0))))
def we0_32 : E := (.ti we0_30 (.li 0) (.ai 9 0 (.ci (.ib .quo .i64 (.at 1 7) (.li 40)) (.ci (.li 9) .n0))))
def we0_33 : E := (.ib .add .i64 (.li 2) (.ai 9 0 (.ci (.at 1 7) (.ci (.li 3) .n0))))
def we0_34 : E := (.ai 9 0 (.ci (.ib .add .i64 (.ib .quo .i64 (.vi 0) (.li 3)) (.li 0)) (.ci (.li 3) .n0)))
def we0_35 : E := (.ib .sub .i64 (.ib .sub .i64 (.li 9) we0_34) (.li 7))
def we0_36 : E := (.ib .sub .i64 (.ib .sub .i64 (.li 8) we0_34) (.li 6))
def we0_37 : E := (.ib .sub .i64 (.ib .sub .i64 (.li 7) we0_34) (.li 5))
def we0_38 : E := (.ib .sub .i64 (.ib .sub .i64 (.li 6) we0_34) (.li 4))
def we0_39 : E := (.ib .sub .i64 (.ib .sub .i64 (.li 5) we0_34) (.li 3))
def we0_40 : E := (.ib .sub .i64 (.ib .sub .i64 (.li 4) we0_34) (.li 2))
def we0_41 : E := (.ib .sub .i64 (.ib .sub .i64 (.li 3) we0_34) (.li 1))
def we0_42 : E := (.ib .sub .i64 (.li 2) we0_34)
def we0_43 : E := (.ai 9 0 (.ci (.vi 4) (.ci (.li 10) .n0)))
def we0_44 : E := (.ic .eql we0_43 (.li 0))
def we0_45 : E := (.ic .eql we0_43 (.li 1))
def we0_46 : E := (.ic .eql we0_43 (.li 2))
def we0_47 : E := (.ic .eql we0_43 (.li 3))
def we0_48 : E := (.ic .eql we0_43 (.li 4))
def we0_49 : E := (.ic .eql we0_43 (.li 5))
def we0_50 : E := (.ic .eql we0_43 (.li 6))
def we0_51 : E := (.ic .eql we0_43 (.li 7))
def we0_52 : E := (.ic .eql we0_43 (.li 8))
def we0_53 : E := (.ib .quo .i64 (.vi 4) (.li 9))
def we0_54 : E := (.ai 9 0 (.ci we0_53 (.ci (.li 10) .n0)))
def we0_55 : E := (.ic .eql we0_54 (.li 0))
def we0_56 : E := (.ic .eql we0_54 (.li 1))
def we0_57 : E := (.ic .eql we0_54 (.li 2))
def we0_58 : E := (.ic .eql we0_54 (.li 3))
def we0_59 : E := (.ic .eql we0_54 (.li 4))
def we0_60 : E := (.ic .eql we0_54 (.li 5))
def we0_61 : E := (.ic .eql we0_54 (.li 6))
def we0_62 : E := (.ic .eql we0_54 (.li 7))
def we0_63 : E := (.ic .eql we0_54 (.li 8))
def we0_64 : E := (.ai 9 0 (.ci we0_53 (.ci (.li 9) .n0)))
def we0_65 : E := (.ic .eql we0_64 (.li 0))
def we0_66 : E := (.ic .eql we0_64 (.li 1))
def we0_67 : E := (.ic .eql we0_64 (.li 2))
def we0_68 : E := (.ic .eql we0_64 (.li 3))
def we0_69 : E := (.ic .eql we0_64 (.li 4))
def we0_70 : E := (.ic .eql we0_64 (.li 5))
def we0_71 : E := (.ic .eql we0_64 (.li 6))
def we0_72 : E := (.ic .eql we0_64 (.li 7))
def we0_73 : E := (.ai 9 0 (.ci (.vi 4) (.ci (.li 8) .n0)))
def we0_74 : E := (.ic .eql we0_73 (.li 0))
def we0_75 : E := (.ic .eql we0_73 (.li 1))
def we0_76 : E := (.ic .eql we0_73 (.li 2))
def we0_77 : E := (.ic .eql we0_73 (.li 3))
def we0_78 : E := (.ic .eql we0_73 (.li 4))
def we0_79 : E := (.ic .eql we0_73 (.li 5))
def we0_80 : E := (.ic .eql we0_73 (.li 6))
def we0_81 : E := (.ai 9 0 (.ci we0_53 (.ci (.li 8) .n0)))
def we0_82 : E := (.ic .eql we0_81 (.li 0))
def we0_83 : E := (.ic .eql we0_81 (.li 1))
def we0_84 : E := (.ic .eql we0_81 (.li 2))
def we0_85 : E := (.ic .eql we0_81 (.li 3))
def we0_86 : E := (.ic .eql we0_81 (.li 4))
def we0_87 : E := (.ic .eql we0_81 (.li 5))
def we0_88 : E := (.ic .eql we0_81 (.li 6))
def we0_89 : E := (.ai 9 0 (.ci (.vi 4) (.ci (.li 7) .n0)))
def we0_90 : E := (.ic .eql we0_89 (.li 0))
def we0_91 : E := (.ic .eql we0_89 (.li 1))
def we0_92 : E := (.ic .eql we0_89 (.li 2))
def we0_93 : E := (.ic .eql we0_89 (.li 3))
def we0_94 : E := (.ic .eql we0_89 (.li 4))
def we0_95 : E := (.ic .eql we0_89 (.li 5))
def we0_96 : E := (.ai 9 0 (.ci we0_53 (.ci (.li 7) .n0)))
def we0_97 : E := (.ic .eql we0_96 (.li 0))
def we0_98 : E := (.ic .eql we0_96 (.li 1))
def we0_99 : E := (.ic .eql we0_96 (.li 2))
def we0_100 : E := (.ic .eql we0_96 (.li 3))
def we0_101 : E := (.ic .eql we0_96 (.li 4))
def we0_102 : E := (.ic .eql we0_96 (.li 5))
def we0_103 : E := (.ai 9 0 (.ci (.vi 4) (.ci (.li 6) .n0)))
def we0_104 : E := (.ic .eql we0_103 (.li 0))
def we0_105 : E := (.ic .eql we0_103 (.li 1))
def we0_106 : E := (.ic .eql we0_103 (.li 2))
def we0_107 : E := (.ic .eql we0_103 (.li 3))
def we0_108 : E := (.ic .eql we0_103 (.li 4))
def we0_109 : E := (.ai 9 0 (.ci we0_53 (.ci (.li 6) .n0)))
def we0_110 : E := (.ic .eql we0_109 (.li 0))
def we0_111 : E := (.ic .eql we0_109 (.li 1))
def we0_112 : E := (.ic .eql we0_109 (.li 2))
def we0_113 : E := (.ic .eql we0_109 (.li 3))
def we0_114 : E := (.ic .eql we0_109 (.li 4))
def we0_115 : E := (.ai 9 0 (.ci (.vi 4) (.ci (.li 5) .n0)))
def we0_116 : E := (.ic .eql we0_115 (.li 0))
def we0_117 : E := (.ic .eql we0_115 (.li 1))
def we0_118 : E := (.ic .eql we0_115 (.li 2))
def we0_119 : E := (.ic .eql we0_115 (.li 3))
def we0_120 : E := (.ai 9 0 (.ci we0_53 (.ci (.li 5) .n0)))
def we0_121 : E := (.ic .eql we0_120 (.li 0))
def we0_122 : E := (.ic .eql we0_120 (.li 1))
def we0_123 : E := (.ic .eql we0_120 (.li 2))
def we0_124 : E := (.ic .eql we0_120 (.li 3))
def we0_125 : E := (.ai 9 0 (.ci (.vi 4) (.ci (.li 4) .n0)))
def we0_126 : E := (.ic .eql we0_125 (.li 0))
def we0_127 : E := (.ic .eql we0_125 (.li 1))
def we0_128 : E := (.ic .eql we0_125 (.li 2))
def we0_129 : E := (.ai 9 0 (.ci we0_53 (.ci (.li 4) .n0)))
def we0_130 : E := (.ic .eql we0_129 (.li 0))
def we0_131 : E := (.ic .eql we0_129 (.li 1))
def we0_132 : E := (.ic .eql we0_129 (.li 2))
def we0_133 : E := (.ai 9 0 (.ci (.vi 4) (.ci (.li 3) .n0)))
def we0_134 : E := (.ic .eql we0_133 (.li 0))
def we0_135 : E := (.ic .eql we0_133 (.li 1))
def we0_136 : E := (.ai 9 0 (.ci we0_53 (.ci (.li 3) .n0)))
def we0_137 : E := (.ic .eql we0_136 (.li 0))
def we0_138 : E := (.ic .eql we0_136 (.li 1))
def we0_139 : E := (.ai 9 0 (.ci (.vi 4) (.ci (.li 11) .n0)))
def we0_140 : E := (.ic .eql we0_139 (.li 0))
def we0_141 : E := (.ic .eql we0_139 (.li 1))
def we0_142 : E := (.ic .eql we0_139 (.li 2))
def we0_143 : E := (.ic .eql we0_139 (.li 3))
def we0_144 : E := (.ic .eql we0_139 (.li 4))
def we0_145 : E := (.ic .eql we0_139 (.li 5))
def we0_146 : E := (.ic .eql we0_139 (.li 6))
def we0_147 : E := (.ic .eql we0_139 (.li 7))
def we0_148 : E := (.ic .eql we0_139 (.li 8))
def we0_149 : E := (.ic .eql we0_139 (.li 9))
def we0_150 : E := (.fb .mul (.vf 158) (.vf 159))
def we0_151 : E := (.ai 9 0 (.ci we0_53 (.ci (.li 11) .n0)))
def we0_152 : E := (.ic .eql we0_151 (.li 0))
def we0_153 : E := (.ic .eql we0_151 (.li 1))
def we0_154 : E := (.ic .eql we0_151 (.li 2))
def we0_155 : E := (.ic .eql we0_151 (.li 3))
def we0_156 : E := (.ic .eql we0_151 (.li 4))
def we0_157 : E := (.ic .eql we0_151 (.li 5))
def we0_158 : E := (.ic .eql we0_151 (.li 6))
def we0_159 : E := (.ic .eql we0_151 (.li 7))
def we0_160 : E := (.ic .eql we0_151 (.li 8))
def we0_161 : E := (.ic .eql we0_151 (.li 9))
def we0_162 : E := (.fb .mul (.vf 107) (.vf 160))
def we0_163 : E := (.fb .mul (.vf 162) (.vf 163))
def we0_164 : E := (.fb .mul (.vf 164) (.vf 165))
def we0_165 : E := (.fb .mul (.vf 166) (.vf 167))
def we0_166 : E := (.fb .mul (.vf 168) (.vf 169))
def we0_167 : E := (.fb .mul (.vf 170) (.vf 171))
def we0_168 : E := (.fb .mul (.vf 172) (.vf 173))
def we0_169 : E := (.ai 9 0 (.ci (.vi 4) (.ci (.li 12) .n0)))
def we0_170 : E := (.ic .eql we0_169 (.li 0))
def we0_171 : E := (.ic .eql we0_169 (.li 1))
def we0_172 : E := (.ic .eql we0_169 (.li 2))
def we0_173 : E := (.ic .eql we0_169 (.li 3))
def we0_174 : E := (.ic .eql we0_169 (.li 4))
def we0_175 : E := (.ic .eql we0_169 (.li 5))
def we0_176 : E := (.ic .eql we0_169 (.li 6))
def we0_177 : E := (.ic .eql we0_169 (.li 7))
def we0_178 : E := (.ic .eql we0_169 (.li 8))
def we0_179 : E := (.ic .eql we0_169 (.li 9))
def we0_180 : E := (.ic .eql we0_169 (.li 10))
def we0_181 : E := (.fb .mul (.vf 175) (.vf 176))
def we0_182 : E := (.ai 9 0 (.ci we0_53 (.ci (.li 12) .n0)))
def we0_183 : E := (.ic .eql we0_182 (.li 0))
def we0_184 : E := (.ic .eql we0_182 (.li 1))
def we0_185 : E := (.ic .eql we0_182 (.li 2))
def we0_186 : E := (.ic .eql we0_182 (.li 3))
def we0_187 : E := (.ic .eql we0_182 (.li 4))
def we0_188 : E := (.ic .eql we0_182 (.li 5))
def we0_189 : E := (.ic .eql we0_182 (.li 6))
def we0_190 : E := (.ic .eql we0_182 (.li 7))
def we0_191 : E := (.ic .eql we0_182 (.li 8))
def we0_192 : E := (.ic .eql we0_182 (.li 9))
def we0_193 : E := (.ic .eql we0_182 (.li 10))
def we0_194 : E := (.fb .mul (.vf 113) (.vf 160))
def we0_195 : E := (.fb .mul (.vf 194) (.vf 195))
def we0_196 : E := (.fb .mul (.vf 113) (.vf 179))
def we0_197 : E := (.fb .mul (.vf 180) (.vf 181))
def we0_198 : E := (.fb .mul (.vf 182) (.vf 183))
def we0_199 : E := (.fb .mul (.vf 184) (.vf 185))
def we0_200 : E := (.fb .mul (.vf 186) (.vf 187))
def we0_201 : E := (.fb .mul (.vf 188) (.vf 189))
def we0_202 : E := (.fb .mul (.vf 190) (.vf 191))
def we0_203 : E := (.ai 9 0 (.ci (.vi 4) (.ci (.li 13) .n0)))
def we0_204 : E := (.ic .eql we0_203 (.li 0))
def we0_205 : E := (.ic .eql we0_203 (.li 1))
def we0_206 : E := (.ic .eql we0_203 (.li 2))
def we0_207 : E := (.ic .eql we0_203 (.li 3))
def we0_208 : E := (.ic .eql we0_203 (.li 4))
def we0_209 : E := (.ic .eql we0_203 (.li 5))
def we0_210 : E := (.ic .eql we0_203 (.li 6))
def we0_211 : E := (.ic .eql we0_203 (.li 7))
def we0_212 : E := (.ic .eql we0_203 (.li 8))
def we0_213 : E := (.ic .eql we0_203 (.li 9))
def we0_214 : E := (.ic .eql we0_203 (.li 10))
def we0_215 : E := (.ic .eql we0_203 (.li 11))
def we0_216 : E := (.fb .mul (.vf 192) (.vf 193))
def we0_217 : E := (.ai 9 0 (.ci we0_53 (.ci (.li 13) .n0)))
def we0_218 : E := (.ic .eql we0_217 (.li 0))
def we0_219 : E := (.ic .eql we0_217 (.li 1))
def we0_220 : E := (.ic .eql we0_217 (.li 2))
def we0_221 : E := (.ic .eql we0_217 (.li 3))
def we0_222 : E := (.ic .eql we0_217 (.li 4))
def we0_223 : E := (.ic .eql we0_217 (.li 5))
def we0_224 : E := (.ic .eql we0_217 (.li 6))
def we0_225 : E := (.ic .eql we0_217 (.li 7))
def we0_226 : E := (.ic .eql we0_217 (.li 8))
def we0_227 : E := (.ic .eql we0_217 (.li 9))
def we0_228 : E := (.ic .eql we0_217 (.li 10))
def we0_229 : E := (.ic .eql we0_217 (.li 11))
def we0_230 : E := (.fb .mul (.vf 119) (.vf 160))
def we0_231 : E := (.fb .mul (.vf 213) (.vf 214))
def we0_232 : E := (.fb .mul (.vf 215) (.vf 216))
def we0_233 : E := (.fb .mul (.vf 119) (.vf 179))
def we0_234 : E := (.fb .mul (.vf 219) (.vf 220))
def we0_235 : E := (.fb .mul (.vf 119) (.vf 200))
def we0_236 : E := (.fb .mul (.vf 201) (.vf 202))
def we0_237 : E := (.fb .mul (.vf 203) (.vf 204))
def we0_238 : E := (.fb .mul (.vf 205) (.vf 206))
def we0_239 : E := (.fb .mul (.vf 207) (.vf 208))
def we0_240 : E := (.fb .mul (.vf 209) (.vf 210))
def we0_241 : E := (.ai 9 0 (.ci (.vi 4) (.ci (.li 14) .n0)))
def we0_242 : E := (.ic .eql we0_241 (.li 0))
def we0_243 : E := (.ic .eql we0_241 (.li 1))
def we0_244 : E := (.ic .eql we0_241 (.li 2))
def we0_245 : E := (.ic .eql we0_241 (.li 3))
def we0_246 : E := (.ic .eql we0_241 (.li 4))
def we0_247 : E := (.ic .eql we0_241 (.li 5))
def we0_248 : E := (.ic .eql we0_241 (.li 6))
def we0_249 : E := (.ic .eql we0_241 (.li 7))
def we0_250 : E := (.ic .eql we0_241 (.li 8))
def we0_251 : E := (.ic .eql we0_241 (.li 9))
def we0_252 : E := (.ic .eql we0_241 (.li 10))
def we0_253 : E := (.ic .eql we0_241 (.li 11))
def we0_254 : E := (.ic .eql we0_241 (.li 12))
def we0_255 : E := (.fb .mul (.vf 211) (.vf 212))
def we0_256 : E := (.ai 9 0 (.ci we0_53 (.ci (.li 14) .n0)))
def we0_257 : E := (.ic .eql we0_256 (.li 0))
def we0_258 : E := (.ic .eql we0_256 (.li 1))
def we0_259 : E := (.ic .eql we0_256 (.li 2))
def we0_260 : E := (.ic .eql we0_256 (.li 3))
def we0_261 : E := (.ic .eql we0_256 (.li 4))
def we0_262 : E := (.ic .eql we0_256 (.li 5))
def we0_263 : E := (.ic .eql we0_256 (.li 6))
def we0_264 : E := (.ic .eql we0_256 (.li 7))
def we0_265 : E := (.ic .eql we0_256 (.li 8))
def we0_266 : E := (.ic .eql we0_256 (.li 9))
def we0_267 : E := (.ic .eql we0_256 (.li 10))
def we0_268 : E := (.ic .eql we0_256 (.li 11))
def we0_269 : E := (.ic .eql we0_256 (.li 12))
def we0_270 : E := (.fb .mul (.vf 125) (.vf 160))
def we0_271 : E := (.fb .mul (.vf 236) (.vf 237))
def we0_272 : E := (.fb .mul (.vf 238) (.vf 239))
def we0_273 : E := (.fb .mul (.vf 240) (.vf 241))
def we0_274 : E := (.fb .mul (.vf 125) (.vf 179))
def we0_275 : E := (.fb .mul (.vf 244) (.vf 245))
def we0_276 : E := (.fb .mul (.vf 246) (.vf 247))
def we0_277 : E := (.fb .mul (.vf 125) (.vf 200))
def we0_278 : E := (.fb .mul (.vf 250) (.vf 251))
def we0_279 : E := (.fb .mul (.vf 125) (.vf 225))
def we0_280 : E := (.fb .mul (.vf 226) (.vf 227))
def we0_281 : E := (.fb .mul (.vf 228) (.vf 229))
def we0_282 : E := (.fb .mul (.vf 230) (.vf 231))
def we0_283 : E := (.fb .mul (.vf 232) (.vf 233))
def we0_284 : E := (.ai 9 0 (.ci (.vi 4) (.ci (.li 15) .n0)))
def we0_285 : E := (.ic .eql we0_284 (.li 0))
def we0_286 : E := (.ic .eql we0_284 (.li 1))
def we0_287 : E := (.ic .eql we0_284 (.li 2))
def we0_288 : E := (.ic .eql we0_284 (.li 3))
def we0_289 : E := (.ic .eql we0_284 (.li 4))
def we0_290 : E := (.ic .eql we0_284 (.li 5))
def we0_291 : E := (.ic .eql we0_284 (.li 6))
def we0_292 : E := (.ic .eql we0_284 (.li 7))
def we0_293 : E := (.ic .eql we0_284 (.li 8))
def we0_294 : E := (.ic .eql we0_284 (.li 9))
def we0_295 : E := (.ic .eql we0_284 (.li 10))
def we0_296 : E := (.ic .eql we0_284 (.li 11))
def we0_297 : E := (.ic .eql we0_284 (.li 12))
def we0_298 : E := (.ic .eql we0_284 (.li 13))
def we0_299 : E := (.fb .mul (.vf 234) (.vf 235))
def we0_300 : E := (.ai 9 0 (.ci we0_53 (.ci (.li 15) .n0)))
def we0_301 : E := (.ic .eql we0_300 (.li 0))
def we0_302 : E := (.ic .eql we0_300 (.li 1))
def we0_303 : E := (.ic .eql we0_300 (.li 2))
def we0_304 : E := (.ic .eql we0_300 (.li 3))
def we0_305 : E := (.ic .eql we0_300 (.li 4))
def we0_306 : E := (.ic .eql we0_300 (.li 5))
def we0_307 : E := (.ic .eql we0_300 (.li 6))
def we0_308 : E := (.ic .eql we0_300 (.li 7))
def we0_309 : E := (.ic .eql we0_300 (.li 8))
def we0_310 : E := (.ic .eql we0_300 (.li 9))
def we0_311 : E := (.ic .eql we0_300 (.li 10))
def we0_312 : E := (.ic .eql we0_300 (.li 11))
def we0_313 : E := (.ic .eql we0_300 (.li 12))
def we0_314 : E := (.ic .eql we0_300 (.li 13))
def we0_315 : E := (.fb .mul (.vf 131) (.vf 160))
def we0_316 : E := (.fb .mul (.vf 265) (.vf 266))
def we0_317 : E := (.fb .mul (.vf 267) (.vf 268))
def we0_318 : E := (.fb .mul (.vf 269) (.vf 270))
def we0_319 : E := (.fb .mul (.vf 271) (.vf 272))
def we0_320 : E := (.fb .mul (.vf 131) (.vf 179))
def we0_321 : E := (.fb .mul (.vf 275) (.vf 276))
def we0_322 : E := (.fb .mul (.vf 277) (.vf 278))
def we0_323 : E := (.fb .mul (.vf 279) (.vf 280))
def we0_324 : E := (.fb .mul (.vf 131) (.vf 200))
def we0_325 : E := (.fb .mul (.vf 283) (.vf 284))
def we0_326 : E := (.fb .mul (.vf 285) (.vf 286))
def we0_327 : E := (.fb .mul we0_165 (.vf 225))
def we0_328 : E := (.fb .mul (.vf 289) (.vf 290))
def we0_329 : E := (.fb .mul we0_199 (.vf 256))
def we0_330 : E := (.fb .mul (.vf 257) (.vf 258))
def we0_331 : E := (.fb .mul (.vf 259) (.vf 260))
def we0_332 : E := (.fb .mul (.vf 261) (.vf 262))
def we0_333 : E := (.ai 9 0 (.ci (.vi 4) (.ci (.li 16) .n0)))
def we0_334 : E := (.ic .eql we0_333 (.li 0))
def we0_335 : E := (.ic .eql we0_333 (.li 1))
def we0_336 : E := (.ic .eql we0_333 (.li 2))
def we0_337 : E := (.ic .eql we0_333 (.li 3))
def we0_338 : E := (.ic .eql we0_333 (.li 4))
def we0_339 : E := (.ic .eql we0_333 (.li 5))
def we0_340 : E := (.ic .eql we0_333 (.li 6))
def we0_341 : E := (.ic .eql we0_333 (.li 7))
def we0_342 : E := (.ic .eql we0_333 (.li 8))
def we0_343 : E := (.ic .eql we0_333 (.li 9))
def we0_344 : E := (.ic .eql we0_333 (.li 10))
def we0_345 : E := (.ic .eql we0_333 (.li 11))
def we0_346 : E := (.ic .eql we0_333 (.li 12))
def we0_347 : E := (.ic .eql we0_333 (.li 13))
def we0_348 : E := (.ic .eql we0_333 (.li 14))
def we0_349 : E := (.fb .mul (.vf 263) (.vf 264))
def we0_350 : E := (.ai 9 0 (.ci we0_53 (.ci (.li 16) .n0)))
def we0_351 : E := (.ic .eql we0_350 (.li 0))
def we0_352 : E := (.ic .eql we0_350 (.li 1))
def we0_353 : E := (.ic .eql we0_350 (.li 2))
def we0_354 : E := (.ic .eql we0_350 (.li 3))
def we0_355 : E := (.ic .eql we0_350 (.li 4))
def we0_356 : E := (.ic .eql we0_350 (.li 5))
def we0_357 : E := (.ic .eql we0_350 (.li 6))
def we0_358 : E := (.ic .eql we0_350 (.li 7))
def we0_359 : E := (.ic .eql we0_350 (.li 8))
def we0_360 : E := (.ic .eql we0_350 (.li 9))
def we0_361 : E := (.ic .eql we0_350 (.li 10))
def we0_362 : E := (.ic .eql we0_350 (.li 11))
def we0_363 : E := (.ic .eql we0_350 (.li 12))
def we0_364 : E := (.ic .eql we0_350 (.li 13))
def we0_365 : E := (.ic .eql we0_350 (.li 14))
def we0_366 : E := (.fb .mul (.vf 137) (.vf 160))
def we0_367 : E := (.fb .mul (.vf 302) (.vf 303))
def we0_368 : E := (.fb .mul (.vf 304) (.vf 305))
def we0_369 : E := (.fb .mul (.vf 306) (.vf 307))
def we0_370 : E := (.fb .mul (.vf 308) (.vf 309))
def we0_371 : E := (.fb .mul (.vf 310) (.vf 311))
def we0_372 : E := (.fb .mul (.vf 137) (.vf 179))
def we0_373 : E := (.fb .mul (.vf 314) (.vf 315))
def we0_374 : E := (.fb .mul (.vf 316) (.vf 317))
def we0_375 : E := (.fb .mul (.vf 318) (.vf 319))
def we0_376 : E := (.fb .mul (.vf 320) (.vf 321))
def we0_377 : E := (.fb .mul we0_164 (.vf 200))
def we0_378 : E := (.fb .mul (.vf 324) (.vf 325))
def we0_379 : E := (.fb .mul (.vf 326) (.vf 327))
def we0_380 : E := (.fb .mul (.vf 328) (.vf 329))
def we0_381 : E := (.fb .mul we0_198 (.vf 225))
def we0_382 : E := (.fb .mul (.vf 332) (.vf 333))
def we0_383 : E := (.fb .mul (.vf 334) (.vf 335))
def we0_384 : E := (.fb .mul we0_237 (.vf 256))
def we0_385 : E := (.fb .mul (.vf 338) (.vf 339))
def we0_386 : E := (.fb .mul we0_281 (.vf 295))
def we0_387 : E := (.fb .mul (.vf 296) (.vf 297))
def we0_388 : E := (.fb .mul (.vf 298) (.vf 299))
def we0_389 : E := (.ai 9 0 (.ci (.vi 4) (.ci (.li 17) .n0)))
def we0_390 : E := (.fb .mul (.vf 300) (.vf 301))
def we0_391 : E := (.ai 9 0 (.ci we0_53 (.ci (.li 17) .n0)))
def we0_392 : E := (.fb .mul (.vf 143) (.vf 160))
def we0_393 : E := (.fb .mul (.vf 349) (.vf 350))
def we0_394 : E := (.fb .mul (.vf 351) (.vf 352))
def we0_395 : E := (.fb .mul (.vf 353) (.vf 354))
def we0_396 : E := (.fb .mul (.vf 355) (.vf 356))
def we0_397 : E := (.fb .mul (.vf 357) (.vf 358))
def we0_398 : E := (.fb .mul (.vf 359) (.vf 360))
def we0_399 : E := (.fb .mul we0_163 (.vf 179))
def we0_400 : E := (.fb .mul (.vf 363) (.vf 364))
def we0_401 : E := (.fb .mul (.vf 365) (.vf 366))
def we0_402 : E := (.fb .mul (.vf 367) (.vf 368))
def we0_403 : E := (.fb .mul (.vf 369) (.vf 370))
def we0_404 : E := (.fb .mul (.vf 371) (.vf 372))
def we0_405 : E := (.fb .mul we0_197 (.vf 200))
def we0_406 : E := (.fb .mul (.vf 375) (.vf 376))
def we0_407 : E := (.fb .mul (.vf 377) (.vf 378))
def we0_408 : E := (.fb .mul (.vf 379) (.vf 380))
def we0_409 : E := (.fb .mul (.vf 381) (.vf 382))
def we0_410 : E := (.fb .mul we0_236 (.vf 225))
def we0_411 : E := (.fb .mul (.vf 385) (.vf 386))
def we0_412 : E := (.fb .mul (.vf 387) (.vf 388))
def we0_413 : E := (.fb .mul (.vf 389) (.vf 390))
def we0_414 : E := (.fb .mul we0_280 (.vf 256))
def we0_415 : E := (.fb .mul (.vf 393) (.vf 394))
def we0_416 : E := (.fb .mul (.vf 395) (.vf 396))
def we0_417 : E := (.fb .mul we0_330 (.vf 295))
def we0_418 : E := (.fb .mul (.vf 399) (.vf 400))
def we0_419 : E := (.fb .mul we0_387 (.vf 344))
def wN0 : Nms := [(3562356386, 100, (.fb .add we0_3 we0_4)),
  (2840977592, 101, (.fb .sub we0_3 we0_4)),
  (2119598798, 102, (.fb .mul we0_3 we0_4)),
  (4127447219, 103, (.tf (.ic .eql we0_5 (.li 3)) (.vf 101) (.vf 102))),
  (1274237514, 104, (.tf (.ic .eql we0_5 (.li 2)) (.vf 100) (.vf 103))),
  (1398220004, 105, (.fb .quo we0_3 we0_4)),
  (326590964, 106, (.tf (.ic .eql (.ai 9 0 (.ci (.at 1 0) (.ci (.li 7) .n0))) (.li 0)) (.vf 105) (.vf 104))),
  (1220405726, 107, (.tf we0_0 (.tf we0_0 (.fb .quo (.i2f (.ib .sub .i64 (.ai 9 0 (.ci (.ib .quo .i64 (.at 1 0) (.li 11)) (.ci (.li 33) .n0))) (.li 16))) (.lf 4620693217682128896)) (.lf 0)) (.tf (.vb 2) (.vf 106) (.vf 104)))),
  (494664239, 108, (.tf (.ic .eql we0_7 (.li 0)) we0_1 (.tf (.ic .eql we0_7 (.li 1)) we0_2 (.vf 107)))),
  (3877463912, 109, (.tf (.ic .eql we0_8 (.li 0)) we0_1 (.tf (.ic .eql we0_8 (.li 1)) we0_2 (.vf 107)))),
  (4119833255, 110, (.tf (.ic .eql we0_9 (.li 3)) (.fb .sub (.vf 108) (.vf 109)) (.fb .mul (.vf 108) (.vf 109)))),
  (3184984586, 111, (.tf (.ic .eql we0_9 (.li 2)) (.fb .add (.vf 108) (.vf 109)) (.vf 110))),
  (3181550664, 112, (.tf (.ic .eql (.ai 9 0 (.ci (.at 1 1) (.ci (.li 7) .n0))) (.li 0)) (.fb .quo (.vf 108) (.vf 109)) (.vf 111))),
  (535076580, 113, (.tf we0_6 (.tf we0_6 (.fb .quo (.i2f (.ib .sub .i64 (.ai 9 0 (.ci (.ib .quo .i64 (.at 1 1) (.li 11)) (.ci (.li 33) .n0))) (.li 16))) (.lf 4620693217682128896)) (.lf 0)) (.tf (.vb 2) (.vf 112) (.vf 111)))),
  (96721225, 114, (.tf (.ic .eql we0_11 (.li 0)) we0_1 (.tf (.ic .eql we0_11 (.li 1)) we0_2 (.tf (.ic .eql we0_11 (.li 2)) (.vf 107) (.vf 113))))),
  (3023437089, 115, (.tf (.ic .eql we0_12 (.li 0)) we0_1 (.tf (.ic .eql we0_12 (.li 1)) we0_2 (.tf (.ic .eql we0_12 (.li 2)) (.vf 107) (.vf 113))))),
  (453401594, 116, (.tf (.ic .eql we0_13 (.li 3)) (.fb .sub (.vf 114) (.vf 115)) (.fb .mul (.vf 114) (.vf 115)))),
  (3807520198, 117, (.tf (.ic .eql we0_13 (.li 2)) (.fb .add (.vf 114) (.vf 115)) (.vf 116))),
  (3804086276, 118, (.tf (.ic .eql (.ai 9 0 (.ci (.at 1 2) (.ci (.li 7) .n0))) (.li 0)) (.fb .quo (.vf 114) (.vf 115)) (.vf 117))),
  (4144714724, 119, (.tf we0_10 (.tf we0_10 (.fb .quo (.i2f (.ib .sub .i64 (.ai 9 0 (.ci (.ib .quo .i64 (.at 1 2) (.li 11)) (.ci (.li 33) .n0))) (.li 16))) (.lf 4620693217682128896)) (.lf 0)) (.tf (.vb 2) (.vf 118) (.vf 117)))),
  (1547891518, 120, (.tf (.ic .eql we0_15 (.li 0)) we0_1 (.tf (.ic .eql we0_15 (.li 1)) we0_2 (.tf (.ic .eql we0_15 (.li 2)) (.vf 107) (.tf (.ic .eql we0_15 (.li 3)) (.vf 113) (.vf 119)))))),
  (4018523573, 121, (.tf (.ic .eql we0_16 (.li 0)) we0_1 (.tf (.ic .eql we0_16 (.li 1)) we0_2 (.tf (.ic .eql we0_16 (.li 2)) (.vf 107) (.tf (.ic .eql we0_16 (.li 3)) (.vf 113) (.vf 119)))))),
  (1081937224, 122, (.tf (.ic .eql we0_17 (.li 3)) (.fb .sub (.vf 120) (.vf 121)) (.fb .mul (.vf 120) (.vf 121)))),
  (135088519, 123, (.tf (.ic .eql we0_17 (.li 2)) (.fb .add (.vf 120) (.vf 121)) (.vf 122))),
  (131654597, 124, (.tf (.ic .eql (.ai 9 0 (.ci (.at 1 3) (.ci (.li 7) .n0))) (.li 0)) (.fb .quo (.vf 120) (.vf 121)) (.vf 123))),
  (3459385577, 125, (.tf we0_14 (.tf we0_14 (.fb .quo (.i2f (.ib .sub .i64 (.ai 9 0 (.ci (.ib .quo .i64 (.at 1 3) (.li 11)) (.ci (.li 33) .n0))) (.li 16))) (.lf 4620693217682128896)) (.lf 0)) (.tf (.vb 2) (.vf 124) (.vf 123)))),
  (553207827, 126, (.tf (.ic .eql we0_19 (.li 0)) we0_1 (.tf (.ic .eql we0_19 (.li 1)) we0_2 (.tf (.ic .eql we0_19 (.li 2)) (.vf 107) (.tf (.ic .eql we0_19 (.li 3)) (.vf 113) (.tf (.ic .eql we0_19 (.li 4)) (.vf 119) (.vf 125))))))),
  (2567756073, 127, (.tf (.ic .eql we0_20 (.li 0)) we0_1 (.tf (.ic .eql we0_20 (.li 1)) we0_2 (.tf (.ic .eql we0_20 (.li 2)) (.vf 107) (.tf (.ic .eql we0_20 (.li 3)) (.vf 113) (.tf (.ic .eql we0_20 (.li 4)) (.vf 119) (.vf 125))))))),
  (1710472854, 128, (.tf (.ic .eql we0_21 (.li 3)) (.fb .sub (.vf 126) (.vf 127)) (.fb .mul (.vf 126) (.vf 127)))),
  (757624131, 129, (.tf (.ic .eql we0_21 (.li 2)) (.fb .add (.vf 126) (.vf 127)) (.vf 128))),
  (754190209, 130, (.tf (.ic .eql (.ai 9 0 (.ci (.at 1 4) (.ci (.li 7) .n0))) (.li 0)) (.fb .quo (.vf 126) (.vf 127)) (.vf 129))),
  (2774056430, 131, (.tf we0_18 (.tf we0_18 (.fb .quo (.i2f (.ib .sub .i64 (.ai 9 0 (.ci (.ib .quo .i64 (.at 1 4) (.li 11)) (.ci (.li 33) .n0))) (.li 16))) (.lf 4620693217682128896)) (.lf 0)) (.tf (.vb 2) (.vf 130) (.vf 129)))),
  (1407637443, 132, (.tf (.ic .eql we0_23 (.li 0)) we0_1 (.tf (.ic .eql we0_23 (.li 1)) we0_2 (.tf (.ic .eql we0_23 (.li 2)) (.vf 107) (.tf (.ic .eql we0_23 (.li 3)) (.vf 113) (.tf (.ic .eql we0_23 (.li 4)) (.vf 119) (.tf (.ic .eql we0_23 (.li 5)) (.vf 125) (.vf 131)))))))),
  (2966101880, 133, (.tf (.ic .eql we0_24 (.li 0)) we0_1 (.tf (.ic .eql we0_24 (.li 1)) we0_2 (.tf (.ic .eql we0_24 (.li 2)) (.vf 107) (.tf (.ic .eql we0_24 (.li 3)) (.vf 113) (.tf (.ic .eql we0_24 (.li 4)) (.vf 119) (.tf (.ic .eql we0_24 (.li 5)) (.vf 125) (.vf 131)))))))),
  (2339008484, 134, (.tf (.ic .eql we0_25 (.li 3)) (.fb .sub (.vf 132) (.vf 133)) (.fb .mul (.vf 132) (.vf 133)))),
  (1380159743, 135, (.tf (.ic .eql we0_25 (.li 2)) (.fb .add (.vf 132) (.vf 133)) (.vf 134))),
  (1376725821, 136, (.tf (.ic .eql (.ai 9 0 (.ci (.at 1 5) (.ci (.li 7) .n0))) (.li 0)) (.fb .quo (.vf 132) (.vf 133)) (.vf 135))),
  (2088727283, 137, (.tf we0_22 (.tf we0_22 (.fb .quo (.i2f (.ib .sub .i64 (.ai 9 0 (.ci (.ib .quo .i64 (.at 1 5) (.li 11)) (.ci (.li 33) .n0))) (.li 16))) (.lf 4620693217682128896)) (.lf 0)) (.tf (.vb 2) (.vf 136) (.vf 135)))),
  (4111180366, 138, (.tf (.ic .eql we0_27 (.li 0)) we0_1 (.tf (.ic .eql we0_27 (.li 1)) we0_2 (.tf (.ic .eql we0_27 (.li 2)) (.vf 107) (.tf (.ic .eql we0_27 (.li 3)) (.vf 113) (.tf (.ic .eql we0_27 (.li 4)) (.vf 119) (.tf (.ic .eql we0_27 (.li 5)) (.vf 125) (.tf (.ic .eql we0_27 (.li 6)) (.vf 131) (.vf 137))))))))),
  (918593703, 139, (.tf (.ic .eql we0_28 (.li 0)) we0_1 (.tf (.ic .eql we0_28 (.li 1)) we0_2 (.tf (.ic .eql we0_28 (.li 2)) (.vf 107) (.tf (.ic .eql we0_28 (.li 3)) (.vf 113) (.tf (.ic .eql we0_28 (.li 4)) (.vf 119) (.tf (.ic .eql we0_28 (.li 5)) (.vf 125) (.tf (.ic .eql we0_28 (.li 6)) (.vf 131) (.vf 137))))))))),
  (2967544114, 140, (.tf (.ic .eql we0_29 (.li 3)) (.fb .sub (.vf 138) (.vf 139)) (.fb .mul (.vf 138) (.vf 139)))),
  (2002695355, 141, (.tf (.ic .eql we0_29 (.li 2)) (.fb .add (.vf 138) (.vf 139)) (.vf 140))),
  (1999261433, 142, (.tf (.ic .eql (.ai 9 0 (.ci (.at 1 6) (.ci (.li 7) .n0))) (.li 0)) (.fb .quo (.vf 138) (.vf 139)) (.vf 141))),
  (1403398136, 143, (.tf we0_26 (.tf we0_26 (.fb .quo (.i2f (.ib .sub .i64 (.ai 9 0 (.ci (.ib .quo .i64 (.at 1 6) (.li 11)) (.ci (.li 33) .n0))) (.li 16))) (.lf 4620693217682128896)) (.lf 0)) (.tf (.vb 2) (.vf 142) (.vf 141)))),
  (73902014, 144, (.tf (.ic .eql we0_31 (.li 0)) we0_1 (.tf (.ic .eql we0_31 (.li 1)) we0_2 (.tf (.ic .eql we0_31 (.li 2)) (.vf 107) (.tf (.ic .eql we0_31 (.li 3)) (.vf 113) (.tf (.ic .eql we0_31 (.li 4)) (.vf 119) (.tf (.ic .eql we0_31 (.li 5)) (.vf 125) (.tf (.ic .eql we0_31 (.li 6)) (.vf 131) (.tf (.ic .eql we0_31 (.li 7)) (.vf 137) (.vf 143)))))))))),
  (720198833, 145, (.tf (.ic .eql we0_32 (.li 0)) we0_1 (.tf (.ic .eql we0_32 (.li 1)) we0_2 (.tf (.ic .eql we0_32 (.li 2)) (.vf 107) (.tf (.ic .eql we0_32 (.li 3)) (.vf 113) (.tf (.ic .eql we0_32 (.li 4)) (.vf 119) (.tf (.ic .eql we0_32 (.li 5)) (.vf 125) (.tf (.ic .eql we0_32 (.li 6)) (.vf 131) (.tf (.ic .eql we0_32 (.li 7)) (.vf 137) (.vf 143)))))))))),
  (3596079744, 146, (.tf (.ic .eql we0_33 (.li 3)) (.fb .sub (.vf 144) (.vf 145)) (.fb .mul (.vf 144) (.vf 145)))),
  (2625230967, 147, (.tf (.ic .eql we0_33 (.li 2)) (.fb .add (.vf 144) (.vf 145)) (.vf 146))),
  (2621797045, 148, (.tf (.ic .eql (.ai 9 0 (.ci (.at 1 7) (.ci (.li 7) .n0))) (.li 0)) (.fb .quo (.vf 144) (.vf 145)) (.vf 147))),
  (718068989, 149, (.tf we0_30 (.tf we0_30 (.fb .quo (.i2f (.ib .sub .i64 (.ai 9 0 (.ci (.ib .quo .i64 (.at 1 7) (.li 11)) (.ci (.li 33) .n0))) (.li 16))) (.lf 4620693217682128896)) (.lf 0)) (.tf (.vb 2) (.vf 148) (.vf 147)))),
  (1933683305, 150, (.tf (.ic .eql we0_35 (.li 0)) (.vf 137) (.tf (.ic .eql we0_35 (.li 1)) (.vf 143) (.vf 149)))),
  (1516373184, 151, (.tf (.ic .eql we0_36 (.li 0)) (.vf 131) (.tf (.ic .eql we0_36 (.li 1)) (.vf 137) (.vf 143)))),
  (1099063063, 152, (.tf (.ic .eql we0_37 (.li 0)) (.vf 125) (.tf (.ic .eql we0_37 (.li 1)) (.vf 131) (.vf 137)))),
  (681752942, 153, (.tf (.ic .eql we0_38 (.li 0)) (.vf 119) (.tf (.ic .eql we0_38 (.li 1)) (.vf 125) (.vf 131)))),
  (264442821, 154, (.tf (.ic .eql we0_39 (.li 0)) (.vf 113) (.tf (.ic .eql we0_39 (.li 1)) (.vf 119) (.vf 125)))),
  (4142099991, 155, (.tf (.ic .eql we0_40 (.li 0)) (.vf 107) (.tf (.ic .eql we0_40 (.li 1)) (.vf 113) (.vf 119)))),
  (185834618, 156, (.tf (.ic .eql we0_41 (.li 0)) we0_2 (.tf (.ic .eql we0_41 (.li 1)) (.vf 107) (.vf 113)))),
  (3472888278, 157, (.tf (.ic .eql we0_42 (.li 0)) we0_1 (.tf (.ic .eql we0_42 (.li 1)) we0_2 (.vf 107)))),
  (4107710798, 158, (.tf we0_44 we0_1 (.tf we0_45 we0_2 (.tf we0_46 (.vf 107) (.tf we0_47 (.vf 113) (.tf we0_48 (.vf 119) (.tf we0_49 (.vf 125) (.tf we0_50 (.vf 131) (.tf we0_51 (.vf 137) (.tf we0_52 (.vf 143) (.vf 149))))))))))),
  (2019603703, 159, (.tf we0_55 we0_1 (.tf we0_56 we0_2 (.tf we0_57 (.vf 107) (.tf we0_58 (.vf 113) (.tf we0_59 (.vf 119) (.tf we0_60 (.vf 125) (.tf we0_61 (.vf 131) (.tf we0_62 (.vf 137) (.tf we0_63 (.vf 143) (.vf 149))))))))))),
  (2199509463, 160, (.tf we0_65 we0_1 (.tf we0_66 we0_2 (.tf we0_67 (.vf 107) (.tf we0_68 (.vf 113) (.tf we0_69 (.vf 119) (.tf we0_70 (.vf 125) (.tf we0_71 (.vf 131) (.tf we0_72 (.vf 137) (.vf 143)))))))))),
  (1380558464, 161, (.fb .mul we0_2 (.vf 160))),
  (1348356490, 162, (.tf we0_74 we0_1 (.tf we0_75 we0_2 (.tf we0_76 (.vf 107) (.tf we0_77 (.vf 113) (.tf we0_78 (.vf 119) (.tf we0_79 (.vf 125) (.tf we0_80 (.vf 131) (.vf 137))))))))),
  (3542021897, 163, (.tf we0_82 we0_1 (.tf we0_83 we0_2 (.tf we0_84 (.vf 107) (.tf we0_85 (.vf 113) (.tf we0_86 (.vf 119) (.tf we0_87 (.vf 125) (.tf we0_88 (.vf 131) (.vf 137))))))))),
  (1712589347, 164, (.tf we0_90 we0_1 (.tf we0_91 we0_2 (.tf we0_92 (.vf 107) (.tf we0_93 (.vf 113) (.tf we0_94 (.vf 119) (.tf we0_95 (.vf 125) (.vf 131)))))))),
  (1752173714, 165, (.tf we0_97 we0_1 (.tf we0_98 we0_2 (.tf we0_99 (.vf 107) (.tf we0_100 (.vf 113) (.tf we0_101 (.vf 119) (.tf we0_102 (.vf 125) (.vf 131)))))))),
  (3239428878, 166, (.tf we0_104 we0_1 (.tf we0_105 we0_2 (.tf we0_106 (.vf 107) (.tf we0_107 (.vf 113) (.tf we0_108 (.vf 119) (.vf 125))))))),
  (1124932205, 167, (.tf we0_110 we0_1 (.tf we0_111 we0_2 (.tf we0_112 (.vf 107) (.tf we0_113 (.vf 113) (.tf we0_114 (.vf 119) (.vf 125))))))),
  (1633907792, 168, (.tf we0_116 we0_1 (.tf we0_117 we0_2 (.tf we0_118 (.vf 107) (.tf we0_119 (.vf 113) (.vf 119)))))),
  (1660297370, 169, (.tf we0_121 we0_1 (.tf we0_122 we0_2 (.tf we0_123 (.vf 107) (.tf we0_124 (.vf 113) (.vf 119)))))),
  (1190993380, 170, (.tf we0_126 we0_1 (.tf we0_127 we0_2 (.tf we0_128 (.vf 107) (.vf 113))))),
  (3358269209, 171, (.tf we0_130 we0_1 (.tf we0_131 we0_2 (.tf we0_132 (.vf 107) (.vf 113))))),
  (1910685642, 172, (.tf we0_134 we0_1 (.tf we0_135 we0_2 (.vf 107)))),
  (1923880431, 173, (.tf we0_137 we0_1 (.tf we0_138 we0_2 (.vf 107)))),
  (2398936231, 174, (.fb .mul (.tf (.ic .eql (.ai 9 0 (.ci (.vi 4) (.ci (.li 2) .n0))) (.li 0)) we0_1 we0_2) (.tf (.ic .eql (.ai 9 0 (.ci we0_53 (.ci (.li 2) .n0))) (.li 0)) we0_1 we0_2))),
  (3615877106, 175, (.tf we0_140 we0_1 (.tf we0_141 we0_2 (.tf we0_142 (.vf 107) (.tf we0_143 (.vf 113) (.tf we0_144 (.vf 119) (.tf we0_145 (.vf 125) (.tf we0_146 (.vf 131) (.tf we0_147 (.vf 137) (.tf we0_148 (.vf 143) (.tf we0_149 (.vf 149) we0_150))))))))))),
  (3681851051, 176, (.tf we0_152 we0_1 (.tf we0_153 we0_2 (.tf we0_154 (.vf 107) (.tf we0_155 (.vf 113) (.tf we0_156 (.vf 119) (.tf we0_157 (.vf 125) (.tf we0_158 (.vf 131) (.tf we0_159 (.vf 137) (.tf we0_160 (.vf 143) (.tf we0_161 (.vf 149) we0_150))))))))))),
  (441289795, 177, (.tf we0_44 we0_1 (.tf we0_45 we0_2 (.tf we0_46 (.vf 107) (.tf we0_47 (.vf 113) (.tf we0_48 (.vf 119) (.tf we0_49 (.vf 125) (.tf we0_50 (.vf 131) (.tf we0_51 (.vf 137) (.tf we0_52 (.vf 143) we0_162)))))))))),
  (2648149991, 178, (.tf we0_55 we0_1 (.tf we0_56 we0_2 (.tf we0_57 (.vf 107) (.tf we0_58 (.vf 113) (.tf we0_59 (.vf 119) (.tf we0_60 (.vf 125) (.tf we0_61 (.vf 131) (.tf we0_62 (.vf 137) (.tf we0_63 (.vf 143) we0_162)))))))))),
  (2883055925, 179, (.tf we0_65 we0_1 (.tf we0_66 we0_2 (.tf we0_67 (.vf 107) (.tf we0_68 (.vf 113) (.tf we0_69 (.vf 119) (.tf we0_70 (.vf 125) (.tf we0_71 (.vf 131) (.tf we0_72 (.vf 137) we0_163))))))))),
  (2033902966, 180, (.tf we0_74 we0_1 (.tf we0_75 we0_2 (.tf we0_76 (.vf 107) (.tf we0_77 (.vf 113) (.tf we0_78 (.vf 119) (.tf we0_79 (.vf 125) (.tf we0_80 (.vf 131) we0_164)))))))),
  (4227568373, 181, (.tf we0_82 we0_1 (.tf we0_83 we0_2 (.tf we0_84 (.vf 107) (.tf we0_85 (.vf 113) (.tf we0_86 (.vf 119) (.tf we0_87 (.vf 125) (.tf we0_88 (.vf 131) we0_164)))))))),
  (2400135837, 182, (.tf we0_90 we0_1 (.tf we0_91 we0_2 (.tf we0_92 (.vf 107) (.tf we0_93 (.vf 113) (.tf we0_94 (.vf 119) (.tf we0_95 (.vf 125) we0_165))))))),
  (2439720204, 183, (.tf we0_97 we0_1 (.tf we0_98 we0_2 (.tf we0_99 (.vf 107) (.tf we0_100 (.vf 113) (.tf we0_101 (.vf 119) (.tf we0_102 (.vf 125) we0_165))))))),
  (3928975382, 184, (.tf we0_104 we0_1 (.tf we0_105 we0_2 (.tf we0_106 (.vf 107) (.tf we0_107 (.vf 113) (.tf we0_108 (.vf 119) we0_166)))))),
  (1814478709, 185, (.tf we0_110 we0_1 (.tf we0_111 we0_2 (.tf we0_112 (.vf 107) (.tf we0_113 (.vf 113) (.tf we0_114 (.vf 119) we0_166)))))),
  (2325454310, 186, (.tf we0_116 we0_1 (.tf we0_117 we0_2 (.tf we0_118 (.vf 107) (.tf we0_119 (.vf 113) we0_167))))),
  (2351843888, 187, (.tf we0_121 we0_1 (.tf we0_122 we0_2 (.tf we0_123 (.vf 107) (.tf we0_124 (.vf 113) we0_167))))),
  (1884539912, 188, (.tf we0_126 we0_1 (.tf we0_127 we0_2 (.tf we0_128 (.vf 107) we0_168)))),
  (4051815741, 189, (.tf we0_130 we0_1 (.tf we0_131 we0_2 (.tf we0_132 (.vf 107) we0_168)))),
  (1910685709, 190, (.tf we0_134 we0_1 (.tf we0_135 we0_2 (.vf 174)))),
  (1923880498, 191, (.tf we0_137 we0_1 (.tf we0_138 we0_2 (.vf 174)))),
  (2371960998, 192, (.tf we0_170 we0_1 (.tf we0_171 we0_2 (.tf we0_172 (.vf 107) (.tf we0_173 (.vf 113) (.tf we0_174 (.vf 119) (.tf we0_175 (.vf 125) (.tf we0_176 (.vf 131) (.tf we0_177 (.vf 137) (.tf we0_178 (.vf 143) (.tf we0_179 (.vf 149) (.tf we0_180 we0_150 we0_181)))))))))))),
  (297048692, 193, (.tf we0_183 we0_1 (.tf we0_184 we0_2 (.tf we0_185 (.vf 107) (.tf we0_186 (.vf 113) (.tf we0_187 (.vf 119) (.tf we0_188 (.vf 125) (.tf we0_189 (.vf 131) (.tf we0_190 (.vf 137) (.tf we0_191 (.vf 143) (.tf we0_192 (.vf 149) (.tf we0_193 we0_150 we0_181)))))))))))),
  (447289813, 194, (.tf we0_44 we0_1 (.tf we0_45 we0_2 (.tf we0_46 (.vf 107) (.tf we0_47 (.vf 113) (.tf we0_48 (.vf 119) (.tf we0_49 (.vf 125) (.tf we0_50 (.vf 131) (.tf we0_51 (.vf 137) (.tf we0_52 (.vf 143) we0_194)))))))))),
  (2654150009, 195, (.tf we0_55 we0_1 (.tf we0_56 we0_2 (.tf we0_57 (.vf 107) (.tf we0_58 (.vf 113) (.tf we0_59 (.vf 119) (.tf we0_60 (.vf 125) (.tf we0_61 (.vf 131) (.tf we0_62 (.vf 137) (.tf we0_63 (.vf 143) we0_194)))))))))),
  (509041955, 196, (.tf we0_140 we0_1 (.tf we0_141 we0_2 (.tf we0_142 (.vf 107) (.tf we0_143 (.vf 113) (.tf we0_144 (.vf 119) (.tf we0_145 (.vf 125) (.tf we0_146 (.vf 131) (.tf we0_147 (.vf 137) (.tf we0_148 (.vf 143) (.tf we0_149 we0_194 we0_195))))))))))),
  (575015900, 197, (.tf we0_152 we0_1 (.tf we0_153 we0_2 (.tf we0_154 (.vf 107) (.tf we0_155 (.vf 113) (.tf we0_156 (.vf 119) (.tf we0_157 (.vf 125) (.tf we0_158 (.vf 131) (.tf we0_159 (.vf 137) (.tf we0_160 (.vf 143) (.tf we0_161 we0_194 we0_195))))))))))),
  (620599277, 198, (.tf we0_44 we0_1 (.tf we0_45 we0_2 (.tf we0_46 (.vf 107) (.tf we0_47 (.vf 113) (.tf we0_48 (.vf 119) (.tf we0_49 (.vf 125) (.tf we0_50 (.vf 131) (.tf we0_51 (.vf 137) (.tf we0_52 we0_163 we0_196)))))))))),
  (2827459473, 199, (.tf we0_55 we0_1 (.tf we0_56 we0_2 (.tf we0_57 (.vf 107) (.tf we0_58 (.vf 113) (.tf we0_59 (.vf 119) (.tf we0_60 (.vf 125) (.tf we0_61 (.vf 131) (.tf we0_62 (.vf 137) (.tf we0_63 we0_163 we0_196)))))))))),
  (1639607878, 200, (.tf we0_65 we0_1 (.tf we0_66 we0_2 (.tf we0_67 (.vf 107) (.tf we0_68 (.vf 113) (.tf we0_69 (.vf 119) (.tf we0_70 (.vf 125) (.tf we0_71 (.vf 131) (.tf we0_72 we0_164 we0_197))))))))),
  (3650664646, 201, (.tf we0_74 we0_1 (.tf we0_75 we0_2 (.tf we0_76 (.vf 107) (.tf we0_77 (.vf 113) (.tf we0_78 (.vf 119) (.tf we0_79 (.vf 125) (.tf we0_80 we0_165 we0_198)))))))),
  (1549362762, 202, (.tf we0_82 we0_1 (.tf we0_83 we0_2 (.tf we0_84 (.vf 107) (.tf we0_85 (.vf 113) (.tf we0_86 (.vf 119) (.tf we0_87 (.vf 125) (.tf we0_88 we0_165 we0_198)))))))),
  (2582139953, 203, (.tf we0_90 we0_1 (.tf we0_91 we0_2 (.tf we0_92 (.vf 107) (.tf we0_93 (.vf 113) (.tf we0_94 (.vf 119) (.tf we0_95 we0_166 we0_199))))))),
  (2621724320, 204, (.tf we0_97 we0_1 (.tf we0_98 we0_2 (.tf we0_99 (.vf 107) (.tf we0_100 (.vf 113) (.tf we0_101 (.vf 119) (.tf we0_102 we0_166 we0_199))))))),
  (2676221934, 205, (.tf we0_104 we0_1 (.tf we0_105 we0_2 (.tf we0_106 (.vf 107) (.tf we0_107 (.vf 113) (.tf we0_108 we0_167 we0_200)))))),
  (561725261, 206, (.tf we0_110 we0_1 (.tf we0_111 we0_2 (.tf we0_112 (.vf 107) (.tf we0_113 (.vf 113) (.tf we0_114 we0_167 we0_200)))))),
  (3932910589, 207, (.tf we0_116 we0_1 (.tf we0_117 we0_2 (.tf we0_118 (.vf 107) (.tf we0_119 we0_168 we0_201))))),
  (3959300167, 208, (.tf we0_121 we0_1 (.tf we0_122 we0_2 (.tf we0_123 (.vf 107) (.tf we0_124 we0_168 we0_201))))),
  (1969540185, 209, (.tf we0_126 we0_1 (.tf we0_127 we0_2 (.tf we0_128 (.vf 174) we0_202)))),
  (4136816014, 210, (.tf we0_130 we0_1 (.tf we0_131 we0_2 (.tf we0_132 (.vf 174) we0_202)))),
  (2923113972, 211, (.tf we0_204 we0_1 (.tf we0_205 we0_2 (.tf we0_206 (.vf 107) (.tf we0_207 (.vf 113) (.tf we0_208 (.vf 119) (.tf we0_209 (.vf 125) (.tf we0_210 (.vf 131) (.tf we0_211 (.vf 137) (.tf we0_212 (.vf 143) (.tf we0_213 (.vf 149) (.tf we0_214 we0_150 (.tf we0_215 we0_181 we0_216))))))))))))),
  (3002282706, 212, (.tf we0_218 we0_1 (.tf we0_219 we0_2 (.tf we0_220 (.vf 107) (.tf we0_221 (.vf 113) (.tf we0_222 (.vf 119) (.tf we0_223 (.vf 125) (.tf we0_224 (.vf 131) (.tf we0_225 (.vf 137) (.tf we0_226 (.vf 143) (.tf we0_227 (.vf 149) (.tf we0_228 we0_150 (.tf we0_229 we0_181 we0_216))))))))))))),
  (453289831, 213, (.tf we0_44 we0_1 (.tf we0_45 we0_2 (.tf we0_46 (.vf 107) (.tf we0_47 (.vf 113) (.tf we0_48 (.vf 119) (.tf we0_49 (.vf 125) (.tf we0_50 (.vf 131) (.tf we0_51 (.vf 137) (.tf we0_52 (.vf 143) we0_230)))))))))),
  (2660150027, 214, (.tf we0_55 we0_1 (.tf we0_56 we0_2 (.tf we0_57 (.vf 107) (.tf we0_58 (.vf 113) (.tf we0_59 (.vf 119) (.tf we0_60 (.vf 125) (.tf we0_61 (.vf 131) (.tf we0_62 (.vf 137) (.tf we0_63 (.vf 143) we0_230)))))))))),
  (494736558, 215, (.tf we0_140 we0_1 (.tf we0_141 we0_2 (.tf we0_142 (.vf 107) (.tf we0_143 (.vf 113) (.tf we0_144 (.vf 119) (.tf we0_145 (.vf 125) (.tf we0_146 (.vf 131) (.tf we0_147 (.vf 137) (.tf we0_148 (.vf 143) (.tf we0_149 we0_230 we0_231))))))))))),
  (560710503, 216, (.tf we0_152 we0_1 (.tf we0_153 we0_2 (.tf we0_154 (.vf 107) (.tf we0_155 (.vf 113) (.tf we0_156 (.vf 119) (.tf we0_157 (.vf 125) (.tf we0_158 (.vf 131) (.tf we0_159 (.vf 137) (.tf we0_160 (.vf 143) (.tf we0_161 we0_230 we0_231))))))))))),
  (2564659795, 217, (.tf we0_170 we0_1 (.tf we0_171 we0_2 (.tf we0_172 (.vf 107) (.tf we0_173 (.vf 113) (.tf we0_174 (.vf 119) (.tf we0_175 (.vf 125) (.tf we0_176 (.vf 131) (.tf we0_177 (.vf 137) (.tf we0_178 (.vf 143) (.tf we0_179 we0_230 (.tf we0_180 we0_231 we0_232)))))))))))),
  (489747489, 218, (.tf we0_183 we0_1 (.tf we0_184 we0_2 (.tf we0_185 (.vf 107) (.tf we0_186 (.vf 113) (.tf we0_187 (.vf 119) (.tf we0_188 (.vf 125) (.tf we0_189 (.vf 131) (.tf we0_190 (.vf 137) (.tf we0_191 (.vf 143) (.tf we0_192 we0_230 (.tf we0_193 we0_231 we0_232)))))))))))),
  (626599295, 219, (.tf we0_44 we0_1 (.tf we0_45 we0_2 (.tf we0_46 (.vf 107) (.tf we0_47 (.vf 113) (.tf we0_48 (.vf 119) (.tf we0_49 (.vf 125) (.tf we0_50 (.vf 131) (.tf we0_51 (.vf 137) (.tf we0_52 we0_163 we0_233)))))))))),
  (2833459491, 220, (.tf we0_55 we0_1 (.tf we0_56 we0_2 (.tf we0_57 (.vf 107) (.tf we0_58 (.vf 113) (.tf we0_59 (.vf 119) (.tf we0_60 (.vf 125) (.tf we0_61 (.vf 131) (.tf we0_62 (.vf 137) (.tf we0_63 we0_163 we0_233)))))))))),
  (693046084, 221, (.tf we0_140 we0_1 (.tf we0_141 we0_2 (.tf we0_142 (.vf 107) (.tf we0_143 (.vf 113) (.tf we0_144 (.vf 119) (.tf we0_145 (.vf 125) (.tf we0_146 (.vf 131) (.tf we0_147 (.vf 137) (.tf we0_148 we0_163 (.tf we0_149 we0_233 we0_234))))))))))),
  (759020029, 222, (.tf we0_152 we0_1 (.tf we0_153 we0_2 (.tf we0_154 (.vf 107) (.tf we0_155 (.vf 113) (.tf we0_156 (.vf 119) (.tf we0_157 (.vf 125) (.tf we0_158 (.vf 131) (.tf we0_159 (.vf 137) (.tf we0_160 we0_163 (.tf we0_161 we0_233 we0_234))))))))))),
  (3578202123, 223, (.tf we0_44 we0_1 (.tf we0_45 we0_2 (.tf we0_46 (.vf 107) (.tf we0_47 (.vf 113) (.tf we0_48 (.vf 119) (.tf we0_49 (.vf 125) (.tf we0_50 (.vf 131) (.tf we0_51 we0_164 (.tf we0_52 we0_197 we0_235)))))))))),
  (1490095028, 224, (.tf we0_55 we0_1 (.tf we0_56 we0_2 (.tf we0_57 (.vf 107) (.tf we0_58 (.vf 113) (.tf we0_59 (.vf 119) (.tf we0_60 (.vf 125) (.tf we0_61 (.vf 131) (.tf we0_62 we0_164 (.tf we0_63 we0_197 we0_235)))))))))),
  (3177453205, 225, (.tf we0_65 we0_1 (.tf we0_66 we0_2 (.tf we0_67 (.vf 107) (.tf we0_68 (.vf 113) (.tf we0_69 (.vf 119) (.tf we0_70 (.vf 125) (.tf we0_71 we0_165 (.tf we0_72 we0_198 we0_236))))))))),
  (3753752409, 226, (.tf we0_74 we0_1 (.tf we0_75 we0_2 (.tf we0_76 (.vf 107) (.tf we0_77 (.vf 113) (.tf we0_78 (.vf 119) (.tf we0_79 we0_166 (.tf we0_80 we0_199 we0_237)))))))),
  (1652450525, 227, (.tf we0_82 we0_1 (.tf we0_83 we0_2 (.tf we0_84 (.vf 107) (.tf we0_85 (.vf 113) (.tf we0_86 (.vf 119) (.tf we0_87 we0_166 (.tf we0_88 we0_199 we0_237)))))))),
  (1250470152, 228, (.tf we0_90 we0_1 (.tf we0_91 we0_2 (.tf we0_92 (.vf 107) (.tf we0_93 (.vf 113) (.tf we0_94 we0_167 (.tf we0_95 we0_200 we0_238))))))),
  (1290054519, 229, (.tf we0_97 we0_1 (.tf we0_98 we0_2 (.tf we0_99 (.vf 107) (.tf we0_100 (.vf 113) (.tf we0_101 we0_167 (.tf we0_102 we0_200 we0_238))))))),
  (4204761860, 230, (.tf we0_104 we0_1 (.tf we0_105 we0_2 (.tf we0_106 (.vf 107) (.tf we0_107 we0_168 (.tf we0_108 we0_201 we0_239)))))),
  (2090265187, 231, (.tf we0_110 we0_1 (.tf we0_111 we0_2 (.tf we0_112 (.vf 107) (.tf we0_113 we0_168 (.tf we0_114 we0_201 we0_239)))))),
  (3938994509, 232, (.tf we0_116 we0_1 (.tf we0_117 we0_2 (.tf we0_118 (.vf 174) (.tf we0_119 we0_202 we0_240))))),
  (3965384087, 233, (.tf we0_121 we0_1 (.tf we0_122 we0_2 (.tf we0_123 (.vf 174) (.tf we0_124 we0_202 we0_240))))),
  (976368745, 234, (.tf we0_242 we0_1 (.tf we0_243 we0_2 (.tf we0_244 (.vf 107) (.tf we0_245 (.vf 113) (.tf we0_246 (.vf 119) (.tf we0_247 (.vf 125) (.tf we0_248 (.vf 131) (.tf we0_249 (.vf 137) (.tf we0_250 (.vf 143) (.tf we0_251 (.vf 149) (.tf we0_252 we0_150 (.tf we0_253 we0_181 (.tf we0_254 we0_216 we0_255)))))))))))))),
  (3209618519, 235, (.tf we0_257 we0_1 (.tf we0_258 we0_2 (.tf we0_259 (.vf 107) (.tf we0_260 (.vf 113) (.tf we0_261 (.vf 119) (.tf we0_262 (.vf 125) (.tf we0_263 (.vf 131) (.tf we0_264 (.vf 137) (.tf we0_265 (.vf 143) (.tf we0_266 (.vf 149) (.tf we0_267 we0_150 (.tf we0_268 we0_181 (.tf we0_269 we0_216 we0_255)))))))))))))),
  (459289849, 236, (.tf we0_44 we0_1 (.tf we0_45 we0_2 (.tf we0_46 (.vf 107) (.tf we0_47 (.vf 113) (.tf we0_48 (.vf 119) (.tf we0_49 (.vf 125) (.tf we0_50 (.vf 131) (.tf we0_51 (.vf 137) (.tf we0_52 (.vf 143) we0_270)))))))))),
  (2666150045, 237, (.tf we0_55 we0_1 (.tf we0_56 we0_2 (.tf we0_57 (.vf 107) (.tf we0_58 (.vf 113) (.tf we0_59 (.vf 119) (.tf we0_60 (.vf 125) (.tf we0_61 (.vf 131) (.tf we0_62 (.vf 137) (.tf we0_63 (.vf 143) we0_270)))))))))),
  (484431177, 238, (.tf we0_140 we0_1 (.tf we0_141 we0_2 (.tf we0_142 (.vf 107) (.tf we0_143 (.vf 113) (.tf we0_144 (.vf 119) (.tf we0_145 (.vf 125) (.tf we0_146 (.vf 131) (.tf we0_147 (.vf 137) (.tf we0_148 (.vf 143) (.tf we0_149 we0_270 we0_271))))))))))),
  (550405122, 239, (.tf we0_152 we0_1 (.tf we0_153 we0_2 (.tf we0_154 (.vf 107) (.tf we0_155 (.vf 113) (.tf we0_156 (.vf 119) (.tf we0_157 (.vf 125) (.tf we0_158 (.vf 131) (.tf we0_159 (.vf 137) (.tf we0_160 (.vf 143) (.tf we0_161 we0_270 we0_271))))))))))),
  (3165511385, 240, (.tf we0_170 we0_1 (.tf we0_171 we0_2 (.tf we0_172 (.vf 107) (.tf we0_173 (.vf 113) (.tf we0_174 (.vf 119) (.tf we0_175 (.vf 125) (.tf we0_176 (.vf 131) (.tf we0_177 (.vf 137) (.tf we0_178 (.vf 143) (.tf we0_179 we0_270 (.tf we0_180 we0_271 we0_272)))))))))))),
  (1090599079, 241, (.tf we0_183 we0_1 (.tf we0_184 we0_2 (.tf we0_185 (.vf 107) (.tf we0_186 (.vf 113) (.tf we0_187 (.vf 119) (.tf we0_188 (.vf 125) (.tf we0_189 (.vf 131) (.tf we0_190 (.vf 137) (.tf we0_191 (.vf 143) (.tf we0_192 we0_270 (.tf we0_193 we0_271 we0_272)))))))))))),
  (1267473376, 242, (.tf we0_204 we0_1 (.tf we0_205 we0_2 (.tf we0_206 (.vf 107) (.tf we0_207 (.vf 113) (.tf we0_208 (.vf 119) (.tf we0_209 (.vf 125) (.tf we0_210 (.vf 131) (.tf we0_211 (.vf 137) (.tf we0_212 (.vf 143) (.tf we0_213 we0_270 (.tf we0_214 we0_271 (.tf we0_215 we0_272 we0_273))))))))))))),
  (1346642110, 243, (.tf we0_218 we0_1 (.tf we0_219 we0_2 (.tf we0_220 (.vf 107) (.tf we0_221 (.vf 113) (.tf we0_222 (.vf 119) (.tf we0_223 (.vf 125) (.tf we0_224 (.vf 131) (.tf we0_225 (.vf 137) (.tf we0_226 (.vf 143) (.tf we0_227 we0_270 (.tf we0_228 we0_271 (.tf we0_229 we0_272 we0_273))))))))))))),
  (632599313, 244, (.tf we0_44 we0_1 (.tf we0_45 we0_2 (.tf we0_46 (.vf 107) (.tf we0_47 (.vf 113) (.tf we0_48 (.vf 119) (.tf we0_49 (.vf 125) (.tf we0_50 (.vf 131) (.tf we0_51 (.vf 137) (.tf we0_52 we0_163 we0_274)))))))))),
  (2839459509, 245, (.tf we0_55 we0_1 (.tf we0_56 we0_2 (.tf we0_57 (.vf 107) (.tf we0_58 (.vf 113) (.tf we0_59 (.vf 119) (.tf we0_60 (.vf 125) (.tf we0_61 (.vf 131) (.tf we0_62 (.vf 137) (.tf we0_63 we0_163 we0_274)))))))))),
  (684740711, 246, (.tf we0_140 we0_1 (.tf we0_141 we0_2 (.tf we0_142 (.vf 107) (.tf we0_143 (.vf 113) (.tf we0_144 (.vf 119) (.tf we0_145 (.vf 125) (.tf we0_146 (.vf 131) (.tf we0_147 (.vf 137) (.tf we0_148 we0_163 (.tf we0_149 we0_274 we0_275))))))))))),
  (750714656, 247, (.tf we0_152 we0_1 (.tf we0_153 we0_2 (.tf we0_154 (.vf 107) (.tf we0_155 (.vf 113) (.tf we0_156 (.vf 119) (.tf we0_157 (.vf 125) (.tf we0_158 (.vf 131) (.tf we0_159 (.vf 137) (.tf we0_160 we0_163 (.tf we0_161 we0_274 we0_275))))))))))),
  (1897757882, 248, (.tf we0_170 we0_1 (.tf we0_171 we0_2 (.tf we0_172 (.vf 107) (.tf we0_173 (.vf 113) (.tf we0_174 (.vf 119) (.tf we0_175 (.vf 125) (.tf we0_176 (.vf 131) (.tf we0_177 (.vf 137) (.tf we0_178 we0_163 (.tf we0_179 we0_274 (.tf we0_180 we0_275 we0_276)))))))))))),
  (4117812867, 249, (.tf we0_183 we0_1 (.tf we0_184 we0_2 (.tf we0_185 (.vf 107) (.tf we0_186 (.vf 113) (.tf we0_187 (.vf 119) (.tf we0_188 (.vf 125) (.tf we0_189 (.vf 131) (.tf we0_190 (.vf 137) (.tf we0_191 we0_163 (.tf we0_192 we0_274 (.tf we0_193 we0_275 we0_276)))))))))))),
  (3584202141, 250, (.tf we0_44 we0_1 (.tf we0_45 we0_2 (.tf we0_46 (.vf 107) (.tf we0_47 (.vf 113) (.tf we0_48 (.vf 119) (.tf we0_49 (.vf 125) (.tf we0_50 (.vf 131) (.tf we0_51 we0_164 (.tf we0_52 we0_197 we0_277)))))))))),
  (1496095046, 251, (.tf we0_55 we0_1 (.tf we0_56 we0_2 (.tf we0_57 (.vf 107) (.tf we0_58 (.vf 113) (.tf we0_59 (.vf 119) (.tf we0_60 (.vf 125) (.tf we0_61 (.vf 131) (.tf we0_62 we0_164 (.tf we0_63 we0_197 we0_277)))))))))),
  (3663343605, 252, (.tf we0_140 we0_1 (.tf we0_141 we0_2 (.tf we0_142 (.vf 107) (.tf we0_143 (.vf 113) (.tf we0_144 (.vf 119) (.tf we0_145 (.vf 125) (.tf we0_146 (.vf 131) (.tf we0_147 we0_164 (.tf we0_148 we0_197 (.tf we0_149 we0_277 we0_278))))))))))),
  (3729317550, 253, (.tf we0_152 we0_1 (.tf we0_153 we0_2 (.tf we0_154 (.vf 107) (.tf we0_155 (.vf 113) (.tf we0_156 (.vf 119) (.tf we0_157 (.vf 125) (.tf we0_158 (.vf 131) (.tf we0_159 we0_164 (.tf we0_160 we0_197 (.tf we0_161 we0_277 we0_278))))))))))),
  (2857994671, 254, (.tf we0_44 we0_1 (.tf we0_45 we0_2 (.tf we0_46 (.vf 107) (.tf we0_47 (.vf 113) (.tf we0_48 (.vf 119) (.tf we0_49 (.vf 125) (.tf we0_50 we0_165 (.tf we0_51 we0_198 (.tf we0_52 we0_236 we0_279)))))))))),
  (769887576, 255, (.tf we0_55 we0_1 (.tf we0_56 we0_2 (.tf we0_57 (.vf 107) (.tf we0_58 (.vf 113) (.tf we0_59 (.vf 119) (.tf we0_60 (.vf 125) (.tf we0_61 we0_165 (.tf we0_62 we0_198 (.tf we0_63 we0_236 we0_279)))))))))),
  (1041488246, 256, (.tf we0_65 we0_1 (.tf we0_66 we0_2 (.tf we0_67 (.vf 107) (.tf we0_68 (.vf 113) (.tf we0_69 (.vf 119) (.tf we0_70 we0_166 (.tf we0_71 we0_199 (.tf we0_72 we0_237 we0_280))))))))),
  (183029886, 257, (.tf we0_74 we0_1 (.tf we0_75 we0_2 (.tf we0_76 (.vf 107) (.tf we0_77 (.vf 113) (.tf we0_78 we0_167 (.tf we0_79 we0_200 (.tf we0_80 we0_238 we0_281)))))))),
  (2376695293, 258, (.tf we0_82 we0_1 (.tf we0_83 we0_2 (.tf we0_84 (.vf 107) (.tf we0_85 (.vf 113) (.tf we0_86 we0_167 (.tf we0_87 we0_200 (.tf we0_88 we0_238 we0_281)))))))),
  (539957356, 259, (.tf we0_90 we0_1 (.tf we0_91 we0_2 (.tf we0_92 (.vf 107) (.tf we0_93 we0_168 (.tf we0_94 we0_201 (.tf we0_95 we0_239 we0_282))))))),
  (579541723, 260, (.tf we0_97 we0_1 (.tf we0_98 we0_2 (.tf we0_99 (.vf 107) (.tf we0_100 we0_168 (.tf we0_101 we0_201 (.tf we0_102 we0_239 we0_282))))))),
  (1971793058, 261, (.tf we0_104 we0_1 (.tf we0_105 we0_2 (.tf we0_106 (.vf 174) (.tf we0_107 we0_202 (.tf we0_108 we0_240 we0_283)))))),
  (4152263676, 262, (.tf we0_110 we0_1 (.tf we0_111 we0_2 (.tf we0_112 (.vf 174) (.tf we0_113 we0_202 (.tf we0_114 we0_240 we0_283)))))),
  (3682902325, 263, (.tf we0_285 we0_1 (.tf we0_286 we0_2 (.tf we0_287 (.vf 107) (.tf we0_288 (.vf 113) (.tf we0_289 (.vf 119) (.tf we0_290 (.vf 125) (.tf we0_291 (.vf 131) (.tf we0_292 (.vf 137) (.tf we0_293 (.vf 143) (.tf we0_294 (.vf 149) (.tf we0_295 we0_150 (.tf we0_296 we0_181 (.tf we0_297 we0_216 (.tf we0_298 we0_255 we0_299))))))))))))))),
  (3775265848, 264, (.tf we0_301 we0_1 (.tf we0_302 we0_2 (.tf we0_303 (.vf 107) (.tf we0_304 (.vf 113) (.tf we0_305 (.vf 119) (.tf we0_306 (.vf 125) (.tf we0_307 (.vf 131) (.tf we0_308 (.vf 137) (.tf we0_309 (.vf 143) (.tf we0_310 (.vf 149) (.tf we0_311 we0_150 (.tf we0_312 we0_181 (.tf we0_313 we0_216 (.tf we0_314 we0_255 we0_299))))))))))))))),
  (465289867, 265, (.tf we0_44 we0_1 (.tf we0_45 we0_2 (.tf we0_46 (.vf 107) (.tf we0_47 (.vf 113) (.tf we0_48 (.vf 119) (.tf we0_49 (.vf 125) (.tf we0_50 (.vf 131) (.tf we0_51 (.vf 137) (.tf we0_52 (.vf 143) we0_315)))))))))),
  (2672150063, 266, (.tf we0_55 we0_1 (.tf we0_56 we0_2 (.tf we0_57 (.vf 107) (.tf we0_58 (.vf 113) (.tf we0_59 (.vf 119) (.tf we0_60 (.vf 125) (.tf we0_61 (.vf 131) (.tf we0_62 (.vf 137) (.tf we0_63 (.vf 143) we0_315)))))))))),
  (480125820, 267, (.tf we0_140 we0_1 (.tf we0_141 we0_2 (.tf we0_142 (.vf 107) (.tf we0_143 (.vf 113) (.tf we0_144 (.vf 119) (.tf we0_145 (.vf 125) (.tf we0_146 (.vf 131) (.tf we0_147 (.vf 137) (.tf we0_148 (.vf 143) (.tf we0_149 we0_315 we0_316))))))))))),
  (546099765, 268, (.tf we0_152 we0_1 (.tf we0_153 we0_2 (.tf we0_154 (.vf 107) (.tf we0_155 (.vf 113) (.tf we0_156 (.vf 119) (.tf we0_157 (.vf 125) (.tf we0_158 (.vf 131) (.tf we0_159 (.vf 137) (.tf we0_160 (.vf 143) (.tf we0_161 we0_315 we0_316))))))))))),
  (3745057544, 269, (.tf we0_170 we0_1 (.tf we0_171 we0_2 (.tf we0_172 (.vf 107) (.tf we0_173 (.vf 113) (.tf we0_174 (.vf 119) (.tf we0_175 (.vf 125) (.tf we0_176 (.vf 131) (.tf we0_177 (.vf 137) (.tf we0_178 (.vf 143) (.tf we0_179 we0_315 (.tf we0_180 we0_316 we0_317)))))))))))),
  (1670145238, 270, (.tf we0_183 we0_1 (.tf we0_184 we0_2 (.tf we0_185 (.vf 107) (.tf we0_186 (.vf 113) (.tf we0_187 (.vf 119) (.tf we0_188 (.vf 125) (.tf we0_189 (.vf 131) (.tf we0_190 (.vf 137) (.tf we0_191 (.vf 143) (.tf we0_192 we0_315 (.tf we0_193 we0_316 we0_317)))))))))))),
  (2430871051, 271, (.tf we0_204 we0_1 (.tf we0_205 we0_2 (.tf we0_206 (.vf 107) (.tf we0_207 (.vf 113) (.tf we0_208 (.vf 119) (.tf we0_209 (.vf 125) (.tf we0_210 (.vf 131) (.tf we0_211 (.vf 137) (.tf we0_212 (.vf 143) (.tf we0_213 we0_315 (.tf we0_214 we0_316 (.tf we0_215 we0_317 we0_318))))))))))))),
  (2510039785, 272, (.tf we0_218 we0_1 (.tf we0_219 we0_2 (.tf we0_220 (.vf 107) (.tf we0_221 (.vf 113) (.tf we0_222 (.vf 119) (.tf we0_223 (.vf 125) (.tf we0_224 (.vf 131) (.tf we0_225 (.vf 137) (.tf we0_226 (.vf 143) (.tf we0_227 we0_315 (.tf we0_228 we0_316 (.tf we0_229 we0_317 we0_318))))))))))))),
  (832533632, 273, (.tf we0_242 we0_1 (.tf we0_243 we0_2 (.tf we0_244 (.vf 107) (.tf we0_245 (.vf 113) (.tf we0_246 (.vf 119) (.tf we0_247 (.vf 125) (.tf we0_248 (.vf 131) (.tf we0_249 (.vf 137) (.tf we0_250 (.vf 143) (.tf we0_251 we0_315 (.tf we0_252 we0_316 (.tf we0_253 we0_317 (.tf we0_254 we0_318 we0_319)))))))))))))),
  (3065783406, 274, (.tf we0_257 we0_1 (.tf we0_258 we0_2 (.tf we0_259 (.vf 107) (.tf we0_260 (.vf 113) (.tf we0_261 (.vf 119) (.tf we0_262 (.vf 125) (.tf we0_263 (.vf 131) (.tf we0_264 (.vf 137) (.tf we0_265 (.vf 143) (.tf we0_266 we0_315 (.tf we0_267 we0_316 (.tf we0_268 we0_317 (.tf we0_269 we0_318 we0_319)))))))))))))),
  (638599331, 275, (.tf we0_44 we0_1 (.tf we0_45 we0_2 (.tf we0_46 (.vf 107) (.tf we0_47 (.vf 113) (.tf we0_48 (.vf 119) (.tf we0_49 (.vf 125) (.tf we0_50 (.vf 131) (.tf we0_51 (.vf 137) (.tf we0_52 we0_163 we0_320)))))))))),
  (2845459527, 276, (.tf we0_55 we0_1 (.tf we0_56 we0_2 (.tf we0_57 (.vf 107) (.tf we0_58 (.vf 113) (.tf we0_59 (.vf 119) (.tf we0_60 (.vf 125) (.tf we0_61 (.vf 131) (.tf we0_62 (.vf 137) (.tf we0_63 we0_163 we0_320)))))))))),
  (682435362, 277, (.tf we0_140 we0_1 (.tf we0_141 we0_2 (.tf we0_142 (.vf 107) (.tf we0_143 (.vf 113) (.tf we0_144 (.vf 119) (.tf we0_145 (.vf 125) (.tf we0_146 (.vf 131) (.tf we0_147 (.vf 137) (.tf we0_148 we0_163 (.tf we0_149 we0_320 we0_321))))))))))),
  (748409307, 278, (.tf we0_152 we0_1 (.tf we0_153 we0_2 (.tf we0_154 (.vf 107) (.tf we0_155 (.vf 113) (.tf we0_156 (.vf 119) (.tf we0_157 (.vf 125) (.tf we0_158 (.vf 131) (.tf we0_159 (.vf 137) (.tf we0_160 we0_163 (.tf we0_161 we0_320 we0_321))))))))))),
  (1038546467, 279, (.tf we0_170 we0_1 (.tf we0_171 we0_2 (.tf we0_172 (.vf 107) (.tf we0_173 (.vf 113) (.tf we0_174 (.vf 119) (.tf we0_175 (.vf 125) (.tf we0_176 (.vf 131) (.tf we0_177 (.vf 137) (.tf we0_178 we0_163 (.tf we0_179 we0_320 (.tf we0_180 we0_321 we0_322)))))))))))),
  (3258601452, 280, (.tf we0_183 we0_1 (.tf we0_184 we0_2 (.tf we0_185 (.vf 107) (.tf we0_186 (.vf 113) (.tf we0_187 (.vf 119) (.tf we0_188 (.vf 125) (.tf we0_189 (.vf 131) (.tf we0_190 (.vf 137) (.tf we0_191 we0_163 (.tf we0_192 we0_320 (.tf we0_193 we0_321 we0_322)))))))))))),
  (1110506646, 281, (.tf we0_204 we0_1 (.tf we0_205 we0_2 (.tf we0_206 (.vf 107) (.tf we0_207 (.vf 113) (.tf we0_208 (.vf 119) (.tf we0_209 (.vf 125) (.tf we0_210 (.vf 131) (.tf we0_211 (.vf 137) (.tf we0_212 we0_163 (.tf we0_213 we0_320 (.tf we0_214 we0_321 (.tf we0_215 we0_322 we0_323))))))))))))),
  (1189675380, 282, (.tf we0_218 we0_1 (.tf we0_219 we0_2 (.tf we0_220 (.vf 107) (.tf we0_221 (.vf 113) (.tf we0_222 (.vf 119) (.tf we0_223 (.vf 125) (.tf we0_224 (.vf 131) (.tf we0_225 (.vf 137) (.tf we0_226 we0_163 (.tf we0_227 we0_320 (.tf we0_228 we0_321 (.tf we0_229 we0_322 we0_323))))))))))))),
  (3590202159, 283, (.tf we0_44 we0_1 (.tf we0_45 we0_2 (.tf we0_46 (.vf 107) (.tf we0_47 (.vf 113) (.tf we0_48 (.vf 119) (.tf we0_49 (.vf 125) (.tf we0_50 (.vf 131) (.tf we0_51 we0_164 (.tf we0_52 we0_197 we0_324)))))))))),
  (1502095064, 284, (.tf we0_55 we0_1 (.tf we0_56 we0_2 (.tf we0_57 (.vf 107) (.tf we0_58 (.vf 113) (.tf we0_59 (.vf 119) (.tf we0_60 (.vf 125) (.tf we0_61 (.vf 131) (.tf we0_62 we0_164 (.tf we0_63 we0_197 we0_324)))))))))),
  (3663038264, 285, (.tf we0_140 we0_1 (.tf we0_141 we0_2 (.tf we0_142 (.vf 107) (.tf we0_143 (.vf 113) (.tf we0_144 (.vf 119) (.tf we0_145 (.vf 125) (.tf we0_146 (.vf 131) (.tf we0_147 we0_164 (.tf we0_148 we0_197 (.tf we0_149 we0_324 we0_325))))))))))),
  (3729012209, 286, (.tf we0_152 we0_1 (.tf we0_153 we0_2 (.tf we0_154 (.vf 107) (.tf we0_155 (.vf 113) (.tf we0_156 (.vf 119) (.tf we0_157 (.vf 125) (.tf we0_158 (.vf 131) (.tf we0_159 we0_164 (.tf we0_160 we0_197 (.tf we0_161 we0_324 we0_325))))))))))),
  (2551086332, 287, (.tf we0_170 we0_1 (.tf we0_171 we0_2 (.tf we0_172 (.vf 107) (.tf we0_173 (.vf 113) (.tf we0_174 (.vf 119) (.tf we0_175 (.vf 125) (.tf we0_176 (.vf 131) (.tf we0_177 we0_164 (.tf we0_178 we0_197 (.tf we0_179 we0_324 (.tf we0_180 we0_325 we0_326)))))))))))),
  (476174026, 288, (.tf we0_183 we0_1 (.tf we0_184 we0_2 (.tf we0_185 (.vf 107) (.tf we0_186 (.vf 113) (.tf we0_187 (.vf 119) (.tf we0_188 (.vf 125) (.tf we0_189 (.vf 131) (.tf we0_190 we0_164 (.tf we0_191 we0_197 (.tf we0_192 we0_324 (.tf we0_193 we0_325 we0_326)))))))))))),
  (167789006, 289, (.tf we0_44 we0_1 (.tf we0_45 we0_2 (.tf we0_46 (.vf 107) (.tf we0_47 (.vf 113) (.tf we0_48 (.vf 119) (.tf we0_49 (.vf 125) (.tf we0_50 we0_165 (.tf we0_51 we0_198 (.tf we0_52 we0_236 we0_327)))))))))),
  (2374649202, 290, (.tf we0_55 we0_1 (.tf we0_56 we0_2 (.tf we0_57 (.vf 107) (.tf we0_58 (.vf 113) (.tf we0_59 (.vf 119) (.tf we0_60 (.vf 125) (.tf we0_61 we0_165 (.tf we0_62 we0_198 (.tf we0_63 we0_236 we0_327)))))))))),
  (2157779270, 291, (.tf we0_140 we0_1 (.tf we0_141 we0_2 (.tf we0_142 (.vf 107) (.tf we0_143 (.vf 113) (.tf we0_144 (.vf 119) (.tf we0_145 (.vf 125) (.tf we0_146 we0_165 (.tf we0_147 we0_198 (.tf we0_148 we0_236 (.tf we0_149 we0_327 we0_328))))))))))),
  (2223753215, 292, (.tf we0_152 we0_1 (.tf we0_153 we0_2 (.tf we0_154 (.vf 107) (.tf we0_155 (.vf 113) (.tf we0_156 (.vf 119) (.tf we0_157 (.vf 125) (.tf we0_158 we0_165 (.tf we0_159 we0_198 (.tf we0_160 we0_236 (.tf we0_161 we0_327 we0_328))))))))))),
  (1390274293, 293, (.tf we0_44 we0_1 (.tf we0_45 we0_2 (.tf we0_46 (.vf 107) (.tf we0_47 (.vf 113) (.tf we0_48 (.vf 119) (.tf we0_49 we0_166 (.tf we0_50 we0_199 (.tf we0_51 we0_237 (.tf we0_52 we0_280 we0_329)))))))))),
  (3597134489, 294, (.tf we0_55 we0_1 (.tf we0_56 we0_2 (.tf we0_57 (.vf 107) (.tf we0_58 (.vf 113) (.tf we0_59 (.vf 119) (.tf we0_60 we0_166 (.tf we0_61 we0_199 (.tf we0_62 we0_237 (.tf we0_63 we0_280 we0_329)))))))))),
  (942132427, 295, (.tf we0_65 we0_1 (.tf we0_66 we0_2 (.tf we0_67 (.vf 107) (.tf we0_68 (.vf 113) (.tf we0_69 we0_167 (.tf we0_70 we0_200 (.tf we0_71 we0_238 (.tf we0_72 we0_281 we0_330))))))))),
  (2943883794, 296, (.tf we0_74 we0_1 (.tf we0_75 we0_2 (.tf we0_76 (.vf 107) (.tf we0_77 we0_168 (.tf we0_78 we0_201 (.tf we0_79 we0_239 (.tf we0_80 we0_282 we0_331)))))))),
  (842581910, 297, (.tf we0_82 we0_1 (.tf we0_83 we0_2 (.tf we0_84 (.vf 107) (.tf we0_85 we0_168 (.tf we0_86 we0_201 (.tf we0_87 we0_239 (.tf we0_88 we0_282 we0_331)))))))),
  (1778355258, 298, (.tf we0_90 we0_1 (.tf we0_91 we0_2 (.tf we0_92 (.vf 174) (.tf we0_93 we0_202 (.tf we0_94 we0_240 (.tf we0_95 we0_283 we0_332))))))),
  (1817939625, 299, (.tf we0_97 we0_1 (.tf we0_98 we0_2 (.tf we0_99 (.vf 174) (.tf we0_100 we0_202 (.tf we0_101 we0_240 (.tf we0_102 we0_283 we0_332))))))),
  (3868232265, 300, (.tf we0_334 we0_1 (.tf we0_335 we0_2 (.tf we0_336 (.vf 107) (.tf we0_337 (.vf 113) (.tf we0_338 (.vf 119) (.tf we0_339 (.vf 125) (.tf we0_340 (.vf 131) (.tf we0_341 (.vf 137) (.tf we0_342 (.vf 143) (.tf we0_343 (.vf 149) (.tf we0_344 we0_150 (.tf we0_345 we0_181 (.tf we0_346 we0_216 (.tf we0_347 we0_255 (.tf we0_348 we0_299 we0_349)))))))))))))))),
  (1819709537, 301, (.tf we0_351 we0_1 (.tf we0_352 we0_2 (.tf we0_353 (.vf 107) (.tf we0_354 (.vf 113) (.tf we0_355 (.vf 119) (.tf we0_356 (.vf 125) (.tf we0_357 (.vf 131) (.tf we0_358 (.vf 137) (.tf we0_359 (.vf 143) (.tf we0_360 (.vf 149) (.tf we0_361 we0_150 (.tf we0_362 we0_181 (.tf we0_363 we0_216 (.tf we0_364 we0_255 (.tf we0_365 we0_299 we0_349)))))))))))))))),
  (471289885, 302, (.tf we0_44 we0_1 (.tf we0_45 we0_2 (.tf we0_46 (.vf 107) (.tf we0_47 (.vf 113) (.tf we0_48 (.vf 119) (.tf we0_49 (.vf 125) (.tf we0_50 (.vf 131) (.tf we0_51 (.vf 137) (.tf we0_52 (.vf 143) we0_366)))))))))),
  (2678150081, 303, (.tf we0_55 we0_1 (.tf we0_56 we0_2 (.tf we0_57 (.vf 107) (.tf we0_58 (.vf 113) (.tf we0_59 (.vf 119) (.tf we0_60 (.vf 125) (.tf we0_61 (.vf 131) (.tf we0_62 (.vf 137) (.tf we0_63 (.vf 143) we0_366)))))))))),
  (483820495, 304, (.tf we0_140 we0_1 (.tf we0_141 we0_2 (.tf we0_142 (.vf 107) (.tf we0_143 (.vf 113) (.tf we0_144 (.vf 119) (.tf we0_145 (.vf 125) (.tf we0_146 (.vf 131) (.tf we0_147 (.vf 137) (.tf we0_148 (.vf 143) (.tf we0_149 we0_366 we0_367))))))))))),
  (549794440, 305, (.tf we0_152 we0_1 (.tf we0_153 we0_2 (.tf we0_154 (.vf 107) (.tf we0_155 (.vf 113) (.tf we0_156 (.vf 119) (.tf we0_157 (.vf 125) (.tf we0_158 (.vf 131) (.tf we0_159 (.vf 137) (.tf we0_160 (.vf 143) (.tf we0_161 we0_366 we0_367))))))))))),
  (2864540698, 306, (.tf we0_170 we0_1 (.tf we0_171 we0_2 (.tf we0_172 (.vf 107) (.tf we0_173 (.vf 113) (.tf we0_174 (.vf 119) (.tf we0_175 (.vf 125) (.tf we0_176 (.vf 131) (.tf we0_177 (.vf 137) (.tf we0_178 (.vf 143) (.tf we0_179 we0_366 (.tf we0_180 we0_367 we0_368)))))))))))),
  (789628392, 307, (.tf we0_183 we0_1 (.tf we0_184 we0_2 (.tf we0_185 (.vf 107) (.tf we0_186 (.vf 113) (.tf we0_187 (.vf 119) (.tf we0_188 (.vf 125) (.tf we0_189 (.vf 131) (.tf we0_190 (.vf 137) (.tf we0_191 (.vf 143) (.tf we0_192 we0_366 (.tf we0_193 we0_367 we0_368)))))))))))),
  (666142684, 308, (.tf we0_204 we0_1 (.tf we0_205 we0_2 (.tf we0_206 (.vf 107) (.tf we0_207 (.vf 113) (.tf we0_208 (.vf 119) (.tf we0_209 (.vf 125) (.tf we0_210 (.vf 131) (.tf we0_211 (.vf 137) (.tf we0_212 (.vf 143) (.tf we0_213 we0_366 (.tf we0_214 we0_367 (.tf we0_215 we0_368 we0_369))))))))))))),
  (745311418, 309, (.tf we0_218 we0_1 (.tf we0_219 we0_2 (.tf we0_220 (.vf 107) (.tf we0_221 (.vf 113) (.tf we0_222 (.vf 119) (.tf we0_223 (.vf 125) (.tf we0_224 (.vf 131) (.tf we0_225 (.vf 137) (.tf we0_226 (.vf 143) (.tf we0_227 we0_366 (.tf we0_228 we0_367 (.tf we0_229 we0_368 we0_369))))))))))))),
  (2478561035, 310, (.tf we0_242 we0_1 (.tf we0_243 we0_2 (.tf we0_244 (.vf 107) (.tf we0_245 (.vf 113) (.tf we0_246 (.vf 119) (.tf we0_247 (.vf 125) (.tf we0_248 (.vf 131) (.tf we0_249 (.vf 137) (.tf we0_250 (.vf 143) (.tf we0_251 we0_366 (.tf we0_252 we0_367 (.tf we0_253 we0_368 (.tf we0_254 we0_369 we0_370)))))))))))))),
  (416843518, 311, (.tf we0_257 we0_1 (.tf we0_258 we0_2 (.tf we0_259 (.vf 107) (.tf we0_260 (.vf 113) (.tf we0_261 (.vf 119) (.tf we0_262 (.vf 125) (.tf we0_263 (.vf 131) (.tf we0_264 (.vf 137) (.tf we0_265 (.vf 143) (.tf we0_266 we0_366 (.tf we0_267 we0_367 (.tf we0_268 we0_368 (.tf we0_269 we0_369 we0_370)))))))))))))),
  (4006828460, 312, (.tf we0_285 we0_1 (.tf we0_286 we0_2 (.tf we0_287 (.vf 107) (.tf we0_288 (.vf 113) (.tf we0_289 (.vf 119) (.tf we0_290 (.vf 125) (.tf we0_291 (.vf 131) (.tf we0_292 (.vf 137) (.tf we0_293 (.vf 143) (.tf we0_294 we0_366 (.tf we0_295 we0_367 (.tf we0_296 we0_368 (.tf we0_297 we0_369 (.tf we0_298 we0_370 we0_371))))))))))))))),
  (4099191983, 313, (.tf we0_301 we0_1 (.tf we0_302 we0_2 (.tf we0_303 (.vf 107) (.tf we0_304 (.vf 113) (.tf we0_305 (.vf 119) (.tf we0_306 (.vf 125) (.tf we0_307 (.vf 131) (.tf we0_308 (.vf 137) (.tf we0_309 (.vf 143) (.tf we0_310 we0_366 (.tf we0_311 we0_367 (.tf we0_312 we0_368 (.tf we0_313 we0_369 (.tf we0_314 we0_370 we0_371))))))))))))))),
  (644599349, 314, (.tf we0_44 we0_1 (.tf we0_45 we0_2 (.tf we0_46 (.vf 107) (.tf we0_47 (.vf 113) (.tf we0_48 (.vf 119) (.tf we0_49 (.vf 125) (.tf we0_50 (.vf 131) (.tf we0_51 (.vf 137) (.tf we0_52 we0_163 we0_372)))))))))),
  (2851459545, 315, (.tf we0_55 we0_1 (.tf we0_56 we0_2 (.tf we0_57 (.vf 107) (.tf we0_58 (.vf 113) (.tf we0_59 (.vf 119) (.tf we0_60 (.vf 125) (.tf we0_61 (.vf 131) (.tf we0_62 (.vf 137) (.tf we0_63 we0_163 we0_372)))))))))),
  (688130045, 316, (.tf we0_140 we0_1 (.tf we0_141 we0_2 (.tf we0_142 (.vf 107) (.tf we0_143 (.vf 113) (.tf we0_144 (.vf 119) (.tf we0_145 (.vf 125) (.tf we0_146 (.vf 131) (.tf we0_147 (.vf 137) (.tf we0_148 we0_163 (.tf we0_149 we0_372 we0_373))))))))))),
  (754103990, 317, (.tf we0_152 we0_1 (.tf we0_153 we0_2 (.tf we0_154 (.vf 107) (.tf we0_155 (.vf 113) (.tf we0_156 (.vf 119) (.tf we0_157 (.vf 125) (.tf we0_158 (.vf 131) (.tf we0_159 (.vf 137) (.tf we0_160 we0_163 (.tf we0_161 we0_372 we0_373))))))))))),
  (3014239338, 318, (.tf we0_170 we0_1 (.tf we0_171 we0_2 (.tf we0_172 (.vf 107) (.tf we0_173 (.vf 113) (.tf we0_174 (.vf 119) (.tf we0_175 (.vf 125) (.tf we0_176 (.vf 131) (.tf we0_177 (.vf 137) (.tf we0_178 we0_163 (.tf we0_179 we0_372 (.tf we0_180 we0_373 we0_374)))))))))))),
  (939327032, 319, (.tf we0_183 we0_1 (.tf we0_184 we0_2 (.tf we0_185 (.vf 107) (.tf we0_186 (.vf 113) (.tf we0_187 (.vf 119) (.tf we0_188 (.vf 125) (.tf we0_189 (.vf 131) (.tf we0_190 (.vf 137) (.tf we0_191 we0_163 (.tf we0_192 we0_372 (.tf we0_193 we0_373 we0_374)))))))))))),
  (761230414, 320, (.tf we0_204 we0_1 (.tf we0_205 we0_2 (.tf we0_206 (.vf 107) (.tf we0_207 (.vf 113) (.tf we0_208 (.vf 119) (.tf we0_209 (.vf 125) (.tf we0_210 (.vf 131) (.tf we0_211 (.vf 137) (.tf we0_212 we0_163 (.tf we0_213 we0_372 (.tf we0_214 we0_373 (.tf we0_215 we0_374 we0_375))))))))))))),
  (840399148, 321, (.tf we0_218 we0_1 (.tf we0_219 we0_2 (.tf we0_220 (.vf 107) (.tf we0_221 (.vf 113) (.tf we0_222 (.vf 119) (.tf we0_223 (.vf 125) (.tf we0_224 (.vf 131) (.tf we0_225 (.vf 137) (.tf we0_226 we0_163 (.tf we0_227 we0_372 (.tf we0_228 we0_373 (.tf we0_229 we0_374 we0_375))))))))))))),
  (2519037855, 322, (.tf we0_242 we0_1 (.tf we0_243 we0_2 (.tf we0_244 (.vf 107) (.tf we0_245 (.vf 113) (.tf we0_246 (.vf 119) (.tf we0_247 (.vf 125) (.tf we0_248 (.vf 131) (.tf we0_249 (.vf 137) (.tf we0_250 we0_163 (.tf we0_251 we0_372 (.tf we0_252 we0_373 (.tf we0_253 we0_374 (.tf we0_254 we0_375 we0_376)))))))))))))),
  (457320338, 323, (.tf we0_257 we0_1 (.tf we0_258 we0_2 (.tf we0_259 (.vf 107) (.tf we0_260 (.vf 113) (.tf we0_261 (.vf 119) (.tf we0_262 (.vf 125) (.tf we0_263 (.vf 131) (.tf we0_264 (.vf 137) (.tf we0_265 we0_163 (.tf we0_266 we0_372 (.tf we0_267 we0_373 (.tf we0_268 we0_374 (.tf we0_269 we0_375 we0_376)))))))))))))),
  (2334754058, 324, (.tf we0_44 we0_1 (.tf we0_45 we0_2 (.tf we0_46 (.vf 107) (.tf we0_47 (.vf 113) (.tf we0_48 (.vf 119) (.tf we0_49 (.vf 125) (.tf we0_50 (.vf 131) (.tf we0_51 we0_164 (.tf we0_52 we0_197 we0_377)))))))))),
  (246646963, 325, (.tf we0_55 we0_1 (.tf we0_56 we0_2 (.tf we0_57 (.vf 107) (.tf we0_58 (.vf 113) (.tf we0_59 (.vf 119) (.tf we0_60 (.vf 125) (.tf we0_61 (.vf 131) (.tf we0_62 we0_164 (.tf we0_63 we0_197 we0_377)))))))))),
  (840624462, 326, (.tf we0_140 we0_1 (.tf we0_141 we0_2 (.tf we0_142 (.vf 107) (.tf we0_143 (.vf 113) (.tf we0_144 (.vf 119) (.tf we0_145 (.vf 125) (.tf we0_146 (.vf 131) (.tf we0_147 we0_164 (.tf we0_148 we0_197 (.tf we0_149 we0_377 we0_378))))))))))),
  (906598407, 327, (.tf we0_152 we0_1 (.tf we0_153 we0_2 (.tf we0_154 (.vf 107) (.tf we0_155 (.vf 113) (.tf we0_156 (.vf 119) (.tf we0_157 (.vf 125) (.tf we0_158 (.vf 131) (.tf we0_159 we0_164 (.tf we0_160 we0_197 (.tf we0_161 we0_377 we0_378))))))))))),
  (257913136, 328, (.tf we0_170 we0_1 (.tf we0_171 we0_2 (.tf we0_172 (.vf 107) (.tf we0_173 (.vf 113) (.tf we0_174 (.vf 119) (.tf we0_175 (.vf 125) (.tf we0_176 (.vf 131) (.tf we0_177 we0_164 (.tf we0_178 we0_197 (.tf we0_179 we0_377 (.tf we0_180 we0_378 we0_379)))))))))))),
  (2477968121, 329, (.tf we0_183 we0_1 (.tf we0_184 we0_2 (.tf we0_185 (.vf 107) (.tf we0_186 (.vf 113) (.tf we0_187 (.vf 119) (.tf we0_188 (.vf 125) (.tf we0_189 (.vf 131) (.tf we0_190 we0_164 (.tf we0_191 we0_197 (.tf we0_192 we0_377 (.tf we0_193 we0_378 we0_379)))))))))))),
  (3686018175, 330, (.tf we0_204 we0_1 (.tf we0_205 we0_2 (.tf we0_206 (.vf 107) (.tf we0_207 (.vf 113) (.tf we0_208 (.vf 119) (.tf we0_209 (.vf 125) (.tf we0_210 (.vf 131) (.tf we0_211 we0_164 (.tf we0_212 we0_197 (.tf we0_213 we0_377 (.tf we0_214 we0_378 (.tf we0_215 we0_379 we0_380))))))))))))),
  (3765186909, 331, (.tf we0_218 we0_1 (.tf we0_219 we0_2 (.tf we0_220 (.vf 107) (.tf we0_221 (.vf 113) (.tf we0_222 (.vf 119) (.tf we0_223 (.vf 125) (.tf we0_224 (.vf 131) (.tf we0_225 we0_164 (.tf we0_226 we0_197 (.tf we0_227 we0_377 (.tf we0_228 we0_378 (.tf we0_229 we0_379 we0_380))))))))))))),
  (1526630223, 332, (.tf we0_44 we0_1 (.tf we0_45 we0_2 (.tf we0_46 (.vf 107) (.tf we0_47 (.vf 113) (.tf we0_48 (.vf 119) (.tf we0_49 (.vf 125) (.tf we0_50 we0_165 (.tf we0_51 we0_198 (.tf we0_52 we0_236 we0_381)))))))))),
  (3733490419, 333, (.tf we0_55 we0_1 (.tf we0_56 we0_2 (.tf we0_57 (.vf 107) (.tf we0_58 (.vf 113) (.tf we0_59 (.vf 119) (.tf we0_60 (.vf 125) (.tf we0_61 we0_165 (.tf we0_62 we0_198 (.tf we0_63 we0_236 we0_381)))))))))),
  (1447809222, 334, (.tf we0_140 we0_1 (.tf we0_141 we0_2 (.tf we0_142 (.vf 107) (.tf we0_143 (.vf 113) (.tf we0_144 (.vf 119) (.tf we0_145 (.vf 125) (.tf we0_146 we0_165 (.tf we0_147 we0_198 (.tf we0_148 we0_236 (.tf we0_149 we0_381 we0_382))))))))))),
  (1513783167, 335, (.tf we0_152 we0_1 (.tf we0_153 we0_2 (.tf we0_154 (.vf 107) (.tf we0_155 (.vf 113) (.tf we0_156 (.vf 119) (.tf we0_157 (.vf 125) (.tf we0_158 we0_165 (.tf we0_159 we0_198 (.tf we0_160 we0_236 (.tf we0_161 we0_381 we0_382))))))))))),
  (3692002150, 336, (.tf we0_170 we0_1 (.tf we0_171 we0_2 (.tf we0_172 (.vf 107) (.tf we0_173 (.vf 113) (.tf we0_174 (.vf 119) (.tf we0_175 (.vf 125) (.tf we0_176 we0_165 (.tf we0_177 we0_198 (.tf we0_178 we0_236 (.tf we0_179 we0_381 (.tf we0_180 we0_382 we0_383)))))))))))),
  (1617089844, 337, (.tf we0_183 we0_1 (.tf we0_184 we0_2 (.tf we0_185 (.vf 107) (.tf we0_186 (.vf 113) (.tf we0_187 (.vf 119) (.tf we0_188 (.vf 125) (.tf we0_189 we0_165 (.tf we0_190 we0_198 (.tf we0_191 we0_236 (.tf we0_192 we0_381 (.tf we0_193 we0_382 we0_383)))))))))))),
  (587979137, 338, (.tf we0_44 we0_1 (.tf we0_45 we0_2 (.tf we0_46 (.vf 107) (.tf we0_47 (.vf 113) (.tf we0_48 (.vf 119) (.tf we0_49 we0_166 (.tf we0_50 we0_199 (.tf we0_51 we0_237 (.tf we0_52 we0_280 we0_384)))))))))),
  (2794839333, 339, (.tf we0_55 we0_1 (.tf we0_56 we0_2 (.tf we0_57 (.vf 107) (.tf we0_58 (.vf 113) (.tf we0_59 (.vf 119) (.tf we0_60 we0_166 (.tf we0_61 we0_199 (.tf we0_62 we0_237 (.tf we0_63 we0_280 we0_384)))))))))),
  (2874679369, 340, (.tf we0_140 we0_1 (.tf we0_141 we0_2 (.tf we0_142 (.vf 107) (.tf we0_143 (.vf 113) (.tf we0_144 (.vf 119) (.tf we0_145 we0_166 (.tf we0_146 we0_199 (.tf we0_147 we0_237 (.tf we0_148 we0_280 (.tf we0_149 we0_384 we0_385))))))))))),
  (2940653314, 341, (.tf we0_152 we0_1 (.tf we0_153 we0_2 (.tf we0_154 (.vf 107) (.tf we0_155 (.vf 113) (.tf we0_156 (.vf 119) (.tf we0_157 we0_166 (.tf we0_158 we0_199 (.tf we0_159 we0_237 (.tf we0_160 we0_280 (.tf we0_161 we0_384 we0_385))))))))))),
  (3066083847, 342, (.tf we0_44 we0_1 (.tf we0_45 we0_2 (.tf we0_46 (.vf 107) (.tf we0_47 (.vf 113) (.tf we0_48 we0_167 (.tf we0_49 we0_200 (.tf we0_50 we0_238 (.tf we0_51 we0_281 (.tf we0_52 we0_330 we0_386)))))))))),
  (977976752, 343, (.tf we0_55 we0_1 (.tf we0_56 we0_2 (.tf we0_57 (.vf 107) (.tf we0_58 (.vf 113) (.tf we0_59 we0_167 (.tf we0_60 we0_200 (.tf we0_61 we0_238 (.tf we0_62 we0_281 (.tf we0_63 we0_330 we0_386)))))))))),
  (2854080301, 344, (.tf we0_65 we0_1 (.tf we0_66 we0_2 (.tf we0_67 (.vf 107) (.tf we0_68 we0_168 (.tf we0_69 we0_201 (.tf we0_70 we0_239 (.tf we0_71 we0_282 (.tf we0_72 we0_331 we0_387))))))))),
  (3333375662, 345, (.tf we0_74 we0_1 (.tf we0_75 we0_2 (.tf we0_76 (.vf 174) (.tf we0_77 we0_202 (.tf we0_78 we0_240 (.tf we0_79 we0_283 (.tf we0_80 we0_332 we0_388)))))))),
  (1232073778, 346, (.tf we0_82 we0_1 (.tf we0_83 we0_2 (.tf we0_84 (.vf 174) (.tf we0_85 we0_202 (.tf we0_86 we0_240 (.tf we0_87 we0_283 (.tf we0_88 we0_332 we0_388)))))))),
  (1507053118, 347, (.tf (.ic .eql we0_389 (.li 0)) we0_1 (.tf (.ic .eql we0_389 (.li 1)) we0_2 (.tf (.ic .eql we0_389 (.li 2)) (.vf 107) (.tf (.ic .eql we0_389 (.li 3)) (.vf 113) (.tf (.ic .eql we0_389 (.li 4)) (.vf 119) (.tf (.ic .eql we0_389 (.li 5)) (.vf 125) (.tf (.ic .eql we0_389 (.li 6)) (.vf 131) (.tf (.ic .eql we0_389 (.li 7)) (.vf 137) (.tf (.ic .eql we0_389 (.li 8)) (.vf 143) (.tf (.ic .eql we0_389 (.li 9)) (.vf 149) (.tf (.ic .eql we0_389 (.li 10)) we0_150 (.tf (.ic .eql we0_389 (.li 11)) we0_181 (.tf (.ic .eql we0_389 (.li 12)) we0_216 (.tf (.ic .eql we0_389 (.li 13)) we0_255 (.tf (.ic .eql we0_389 (.li 14)) we0_299 (.tf (.ic .eql we0_389 (.li 15)) we0_349 we0_390))))))))))))))))),
  (1612611430, 348, (.tf (.ic .eql we0_391 (.li 0)) we0_1 (.tf (.ic .eql we0_391 (.li 1)) we0_2 (.tf (.ic .eql we0_391 (.li 2)) (.vf 107) (.tf (.ic .eql we0_391 (.li 3)) (.vf 113) (.tf (.ic .eql we0_391 (.li 4)) (.vf 119) (.tf (.ic .eql we0_391 (.li 5)) (.vf 125) (.tf (.ic .eql we0_391 (.li 6)) (.vf 131) (.tf (.ic .eql we0_391 (.li 7)) (.vf 137) (.tf (.ic .eql we0_391 (.li 8)) (.vf 143) (.tf (.ic .eql we0_391 (.li 9)) (.vf 149) (.tf (.ic .eql we0_391 (.li 10)) we0_150 (.tf (.ic .eql we0_391 (.li 11)) we0_181 (.tf (.ic .eql we0_391 (.li 12)) we0_216 (.tf (.ic .eql we0_391 (.li 13)) we0_255 (.tf (.ic .eql we0_391 (.li 14)) we0_299 (.tf (.ic .eql we0_391 (.li 15)) we0_349 we0_390))))))))))))))))),
  (477289903, 349, (.tf we0_44 we0_1 (.tf we0_45 we0_2 (.tf we0_46 (.vf 107) (.tf we0_47 (.vf 113) (.tf we0_48 (.vf 119) (.tf we0_49 (.vf 125) (.tf we0_50 (.vf 131) (.tf we0_51 (.vf 137) (.tf we0_52 (.vf 143) we0_392)))))))))),
  (2684150099, 350, (.tf we0_55 we0_1 (.tf we0_56 we0_2 (.tf we0_57 (.vf 107) (.tf we0_58 (.vf 113) (.tf we0_59 (.vf 119) (.tf we0_60 (.vf 125) (.tf we0_61 (.vf 131) (.tf we0_62 (.vf 137) (.tf we0_63 (.vf 143) we0_392)))))))))),
  (497515210, 351, (.tf we0_140 we0_1 (.tf we0_141 we0_2 (.tf we0_142 (.vf 107) (.tf we0_143 (.vf 113) (.tf we0_144 (.vf 119) (.tf we0_145 (.vf 125) (.tf we0_146 (.vf 131) (.tf we0_147 (.vf 137) (.tf we0_148 (.vf 143) (.tf we0_149 we0_392 we0_393))))))))))),
  (563489155, 352, (.tf we0_152 we0_1 (.tf we0_153 we0_2 (.tf we0_154 (.vf 107) (.tf we0_155 (.vf 113) (.tf we0_156 (.vf 119) (.tf we0_157 (.vf 125) (.tf we0_158 (.vf 131) (.tf we0_159 (.vf 137) (.tf we0_160 (.vf 143) (.tf we0_161 we0_392 we0_393))))))))))),
  (3380170564, 353, (.tf we0_170 we0_1 (.tf we0_171 we0_2 (.tf we0_172 (.vf 107) (.tf we0_173 (.vf 113) (.tf we0_174 (.vf 119) (.tf we0_175 (.vf 125) (.tf we0_176 (.vf 131) (.tf we0_177 (.vf 137) (.tf we0_178 (.vf 143) (.tf we0_179 we0_392 (.tf we0_180 we0_393 we0_394)))))))))))),
  (1305258258, 354, (.tf we0_183 we0_1 (.tf we0_184 we0_2 (.tf we0_185 (.vf 107) (.tf we0_186 (.vf 113) (.tf we0_187 (.vf 119) (.tf we0_188 (.vf 125) (.tf we0_189 (.vf 131) (.tf we0_190 (.vf 137) (.tf we0_191 (.vf 143) (.tf we0_192 we0_392 (.tf we0_193 we0_393 we0_394)))))))))))),
  (1683707701, 355, (.tf we0_204 we0_1 (.tf we0_205 we0_2 (.tf we0_206 (.vf 107) (.tf we0_207 (.vf 113) (.tf we0_208 (.vf 119) (.tf we0_209 (.vf 125) (.tf we0_210 (.vf 131) (.tf we0_211 (.vf 137) (.tf we0_212 (.vf 143) (.tf we0_213 we0_392 (.tf we0_214 we0_393 (.tf we0_215 we0_394 we0_395))))))))))))),
  (1762876435, 356, (.tf we0_218 we0_1 (.tf we0_219 we0_2 (.tf we0_220 (.vf 107) (.tf we0_221 (.vf 113) (.tf we0_222 (.vf 119) (.tf we0_223 (.vf 125) (.tf we0_224 (.vf 131) (.tf we0_225 (.vf 137) (.tf we0_226 (.vf 143) (.tf we0_227 we0_392 (.tf we0_228 we0_393 (.tf we0_229 we0_394 we0_395))))))))))))),
  (3998061203, 357, (.tf we0_242 we0_1 (.tf we0_243 we0_2 (.tf we0_244 (.vf 107) (.tf we0_245 (.vf 113) (.tf we0_246 (.vf 119) (.tf we0_247 (.vf 125) (.tf we0_248 (.vf 131) (.tf we0_249 (.vf 137) (.tf we0_250 (.vf 143) (.tf we0_251 we0_392 (.tf we0_252 we0_393 (.tf we0_253 we0_394 (.tf we0_254 we0_395 we0_396)))))))))))))),
  (1936343686, 358, (.tf we0_257 we0_1 (.tf we0_258 we0_2 (.tf we0_259 (.vf 107) (.tf we0_260 (.vf 113) (.tf we0_261 (.vf 119) (.tf we0_262 (.vf 125) (.tf we0_263 (.vf 131) (.tf we0_264 (.vf 137) (.tf we0_265 (.vf 143) (.tf we0_266 we0_392 (.tf we0_267 we0_393 (.tf we0_268 we0_394 (.tf we0_269 we0_395 we0_396)))))))))))))),
  (1733296488, 359, (.tf we0_285 we0_1 (.tf we0_286 we0_2 (.tf we0_287 (.vf 107) (.tf we0_288 (.vf 113) (.tf we0_289 (.vf 119) (.tf we0_290 (.vf 125) (.tf we0_291 (.vf 131) (.tf we0_292 (.vf 137) (.tf we0_293 (.vf 143) (.tf we0_294 we0_392 (.tf we0_295 we0_393 (.tf we0_296 we0_394 (.tf we0_297 we0_395 (.tf we0_298 we0_396 we0_397))))))))))))))),
  (1825660011, 360, (.tf we0_301 we0_1 (.tf we0_302 we0_2 (.tf we0_303 (.vf 107) (.tf we0_304 (.vf 113) (.tf we0_305 (.vf 119) (.tf we0_306 (.vf 125) (.tf we0_307 (.vf 131) (.tf we0_308 (.vf 137) (.tf we0_309 (.vf 143) (.tf we0_310 we0_392 (.tf we0_311 we0_393 (.tf we0_312 we0_394 (.tf we0_313 we0_395 (.tf we0_314 we0_396 we0_397))))))))))))))),
  (3479348138, 361, (.tf we0_334 we0_1 (.tf we0_335 we0_2 (.tf we0_336 (.vf 107) (.tf we0_337 (.vf 113) (.tf we0_338 (.vf 119) (.tf we0_339 (.vf 125) (.tf we0_340 (.vf 131) (.tf we0_341 (.vf 137) (.tf we0_342 (.vf 143) (.tf we0_343 we0_392 (.tf we0_344 we0_393 (.tf we0_345 we0_394 (.tf we0_346 we0_395 (.tf we0_347 we0_396 (.tf we0_348 we0_397 we0_398)))))))))))))))),
  (1430825410, 362, (.tf we0_351 we0_1 (.tf we0_352 we0_2 (.tf we0_353 (.vf 107) (.tf we0_354 (.vf 113) (.tf we0_355 (.vf 119) (.tf we0_356 (.vf 125) (.tf we0_357 (.vf 131) (.tf we0_358 (.vf 137) (.tf we0_359 (.vf 143) (.tf we0_360 we0_392 (.tf we0_361 we0_393 (.tf we0_362 we0_394 (.tf we0_363 we0_395 (.tf we0_364 we0_396 (.tf we0_365 we0_397 we0_398)))))))))))))))),
  (823908812, 363, (.tf we0_44 we0_1 (.tf we0_45 we0_2 (.tf we0_46 (.vf 107) (.tf we0_47 (.vf 113) (.tf we0_48 (.vf 119) (.tf we0_49 (.vf 125) (.tf we0_50 (.vf 131) (.tf we0_51 (.vf 137) (.tf we0_52 we0_163 we0_399)))))))))),
  (3030769008, 364, (.tf we0_55 we0_1 (.tf we0_56 we0_2 (.tf we0_57 (.vf 107) (.tf we0_58 (.vf 113) (.tf we0_59 (.vf 119) (.tf we0_60 (.vf 125) (.tf we0_61 (.vf 131) (.tf we0_62 (.vf 137) (.tf we0_63 we0_163 we0_399)))))))))),
  (148626671, 365, (.tf we0_140 we0_1 (.tf we0_141 we0_2 (.tf we0_142 (.vf 107) (.tf we0_143 (.vf 113) (.tf we0_144 (.vf 119) (.tf we0_145 (.vf 125) (.tf we0_146 (.vf 131) (.tf we0_147 (.vf 137) (.tf we0_148 we0_163 (.tf we0_149 we0_399 we0_400))))))))))),
  (214600616, 366, (.tf we0_152 we0_1 (.tf we0_153 we0_2 (.tf we0_154 (.vf 107) (.tf we0_155 (.vf 113) (.tf we0_156 (.vf 119) (.tf we0_157 (.vf 125) (.tf we0_158 (.vf 131) (.tf we0_159 (.vf 137) (.tf we0_160 we0_163 (.tf we0_161 we0_399 we0_400))))))))))),
  (1535913533, 367, (.tf we0_170 we0_1 (.tf we0_171 we0_2 (.tf we0_172 (.vf 107) (.tf we0_173 (.vf 113) (.tf we0_174 (.vf 119) (.tf we0_175 (.vf 125) (.tf we0_176 (.vf 131) (.tf we0_177 (.vf 137) (.tf we0_178 we0_163 (.tf we0_179 we0_399 (.tf we0_180 we0_400 we0_401)))))))))))),
  (3755968518, 368, (.tf we0_183 we0_1 (.tf we0_184 we0_2 (.tf we0_185 (.vf 107) (.tf we0_186 (.vf 113) (.tf we0_187 (.vf 119) (.tf we0_188 (.vf 125) (.tf we0_189 (.vf 131) (.tf we0_190 (.vf 137) (.tf we0_191 we0_163 (.tf we0_192 we0_399 (.tf we0_193 we0_400 we0_401)))))))))))),
  (2639049469, 369, (.tf we0_204 we0_1 (.tf we0_205 we0_2 (.tf we0_206 (.vf 107) (.tf we0_207 (.vf 113) (.tf we0_208 (.vf 119) (.tf we0_209 (.vf 125) (.tf we0_210 (.vf 131) (.tf we0_211 (.vf 137) (.tf we0_212 we0_163 (.tf we0_213 we0_399 (.tf we0_214 we0_400 (.tf we0_215 we0_401 we0_402))))))))))))),
  (2718218203, 370, (.tf we0_218 we0_1 (.tf we0_219 we0_2 (.tf we0_220 (.vf 107) (.tf we0_221 (.vf 113) (.tf we0_222 (.vf 119) (.tf we0_223 (.vf 125) (.tf we0_224 (.vf 131) (.tf we0_225 (.vf 137) (.tf we0_226 we0_163 (.tf we0_227 we0_399 (.tf we0_228 we0_400 (.tf we0_229 we0_401 we0_402))))))))))))),
  (3458034479, 371, (.tf we0_242 we0_1 (.tf we0_243 we0_2 (.tf we0_244 (.vf 107) (.tf we0_245 (.vf 113) (.tf we0_246 (.vf 119) (.tf we0_247 (.vf 125) (.tf we0_248 (.vf 131) (.tf we0_249 (.vf 137) (.tf we0_250 we0_163 (.tf we0_251 we0_399 (.tf we0_252 we0_400 (.tf we0_253 we0_401 (.tf we0_254 we0_402 we0_403)))))))))))))),
  (1396316962, 372, (.tf we0_257 we0_1 (.tf we0_258 we0_2 (.tf we0_259 (.vf 107) (.tf we0_260 (.vf 113) (.tf we0_261 (.vf 119) (.tf we0_262 (.vf 125) (.tf we0_263 (.vf 131) (.tf we0_264 (.vf 137) (.tf we0_265 we0_163 (.tf we0_266 we0_399 (.tf we0_267 we0_400 (.tf we0_268 we0_401 (.tf we0_269 we0_402 we0_403)))))))))))))),
  (3992868563, 373, (.tf we0_285 we0_1 (.tf we0_286 we0_2 (.tf we0_287 (.vf 107) (.tf we0_288 (.vf 113) (.tf we0_289 (.vf 119) (.tf we0_290 (.vf 125) (.tf we0_291 (.vf 131) (.tf we0_292 (.vf 137) (.tf we0_293 we0_163 (.tf we0_294 we0_399 (.tf we0_295 we0_400 (.tf we0_296 we0_401 (.tf we0_297 we0_402 (.tf we0_298 we0_403 we0_404))))))))))))))),
  (4085232086, 374, (.tf we0_301 we0_1 (.tf we0_302 we0_2 (.tf we0_303 (.vf 107) (.tf we0_304 (.vf 113) (.tf we0_305 (.vf 119) (.tf we0_306 (.vf 125) (.tf we0_307 (.vf 131) (.tf we0_308 (.vf 137) (.tf we0_309 we0_163 (.tf we0_310 we0_399 (.tf we0_311 we0_400 (.tf we0_312 we0_401 (.tf we0_313 we0_402 (.tf we0_314 we0_403 we0_404))))))))))))))),
  (3693595275, 375, (.tf we0_44 we0_1 (.tf we0_45 we0_2 (.tf we0_46 (.vf 107) (.tf we0_47 (.vf 113) (.tf we0_48 (.vf 119) (.tf we0_49 (.vf 125) (.tf we0_50 (.vf 131) (.tf we0_51 we0_164 (.tf we0_52 we0_197 we0_405)))))))))),
  (1605488180, 376, (.tf we0_55 we0_1 (.tf we0_56 we0_2 (.tf we0_57 (.vf 107) (.tf we0_58 (.vf 113) (.tf we0_59 (.vf 119) (.tf we0_60 (.vf 125) (.tf we0_61 (.vf 131) (.tf we0_62 we0_164 (.tf we0_63 we0_197 we0_405)))))))))),
  (138654446, 377, (.tf we0_140 we0_1 (.tf we0_141 we0_2 (.tf we0_142 (.vf 107) (.tf we0_143 (.vf 113) (.tf we0_144 (.vf 119) (.tf we0_145 (.vf 125) (.tf we0_146 (.vf 131) (.tf we0_147 we0_164 (.tf we0_148 we0_197 (.tf we0_149 we0_405 we0_406))))))))))),
  (204628391, 378, (.tf we0_152 we0_1 (.tf we0_153 we0_2 (.tf we0_154 (.vf 107) (.tf we0_155 (.vf 113) (.tf we0_156 (.vf 119) (.tf we0_157 (.vf 125) (.tf we0_158 (.vf 131) (.tf we0_159 we0_164 (.tf we0_160 we0_197 (.tf we0_161 we0_405 we0_406))))))))))),
  (1471330398, 379, (.tf we0_170 we0_1 (.tf we0_171 we0_2 (.tf we0_172 (.vf 107) (.tf we0_173 (.vf 113) (.tf we0_174 (.vf 119) (.tf we0_175 (.vf 125) (.tf we0_176 (.vf 131) (.tf we0_177 we0_164 (.tf we0_178 we0_197 (.tf we0_179 we0_405 (.tf we0_180 we0_406 we0_407)))))))))))),
  (3691385383, 380, (.tf we0_183 we0_1 (.tf we0_184 we0_2 (.tf we0_185 (.vf 107) (.tf we0_186 (.vf 113) (.tf we0_187 (.vf 119) (.tf we0_188 (.vf 125) (.tf we0_189 (.vf 131) (.tf we0_190 we0_164 (.tf we0_191 we0_197 (.tf we0_192 we0_405 (.tf we0_193 we0_406 we0_407)))))))))))),
  (2519855424, 381, (.tf we0_204 we0_1 (.tf we0_205 we0_2 (.tf we0_206 (.vf 107) (.tf we0_207 (.vf 113) (.tf we0_208 (.vf 119) (.tf we0_209 (.vf 125) (.tf we0_210 (.vf 131) (.tf we0_211 we0_164 (.tf we0_212 we0_197 (.tf we0_213 we0_405 (.tf we0_214 we0_406 (.tf we0_215 we0_407 we0_408))))))))))))),
  (2599024158, 382, (.tf we0_218 we0_1 (.tf we0_219 we0_2 (.tf we0_220 (.vf 107) (.tf we0_221 (.vf 113) (.tf we0_222 (.vf 119) (.tf we0_223 (.vf 125) (.tf we0_224 (.vf 131) (.tf we0_225 we0_164 (.tf we0_226 we0_197 (.tf we0_227 we0_405 (.tf we0_228 we0_406 (.tf we0_229 we0_407 we0_408))))))))))))),
  (3284229524, 383, (.tf we0_242 we0_1 (.tf we0_243 we0_2 (.tf we0_244 (.vf 107) (.tf we0_245 (.vf 113) (.tf we0_246 (.vf 119) (.tf we0_247 (.vf 125) (.tf we0_248 (.vf 131) (.tf we0_249 we0_164 (.tf we0_250 we0_197 (.tf we0_251 we0_405 (.tf we0_252 we0_406 (.tf we0_253 we0_407 (.tf we0_254 we0_408 we0_409)))))))))))))),
  (1222512007, 384, (.tf we0_257 we0_1 (.tf we0_258 we0_2 (.tf we0_259 (.vf 107) (.tf we0_260 (.vf 113) (.tf we0_261 (.vf 119) (.tf we0_262 (.vf 125) (.tf we0_263 (.vf 131) (.tf we0_264 we0_164 (.tf we0_265 we0_197 (.tf we0_266 we0_405 (.tf we0_267 we0_406 (.tf we0_268 we0_407 (.tf we0_269 we0_408 we0_409)))))))))))))),
  (724335067, 385, (.tf we0_44 we0_1 (.tf we0_45 we0_2 (.tf we0_46 (.vf 107) (.tf we0_47 (.vf 113) (.tf we0_48 (.vf 119) (.tf we0_49 (.vf 125) (.tf we0_50 we0_165 (.tf we0_51 we0_198 (.tf we0_52 we0_236 we0_410)))))))))),
  (2931195263, 386, (.tf we0_55 we0_1 (.tf we0_56 we0_2 (.tf we0_57 (.vf 107) (.tf we0_58 (.vf 113) (.tf we0_59 (.vf 119) (.tf we0_60 (.vf 125) (.tf we0_61 we0_165 (.tf we0_62 we0_198 (.tf we0_63 we0_236 we0_410)))))))))),
  (3827882766, 387, (.tf we0_140 we0_1 (.tf we0_141 we0_2 (.tf we0_142 (.vf 107) (.tf we0_143 (.vf 113) (.tf we0_144 (.vf 119) (.tf we0_145 (.vf 125) (.tf we0_146 we0_165 (.tf we0_147 we0_198 (.tf we0_148 we0_236 (.tf we0_149 we0_410 we0_411))))))))))),
  (3893856711, 388, (.tf we0_152 we0_1 (.tf we0_153 we0_2 (.tf we0_154 (.vf 107) (.tf we0_155 (.vf 113) (.tf we0_156 (.vf 119) (.tf we0_157 (.vf 125) (.tf we0_158 we0_165 (.tf we0_159 we0_198 (.tf we0_160 we0_236 (.tf we0_161 we0_410 we0_411))))))))))),
  (2251738099, 389, (.tf we0_170 we0_1 (.tf we0_171 we0_2 (.tf we0_172 (.vf 107) (.tf we0_173 (.vf 113) (.tf we0_174 (.vf 119) (.tf we0_175 (.vf 125) (.tf we0_176 we0_165 (.tf we0_177 we0_198 (.tf we0_178 we0_236 (.tf we0_179 we0_410 (.tf we0_180 we0_411 we0_412)))))))))))),
  (176825793, 390, (.tf we0_183 we0_1 (.tf we0_184 we0_2 (.tf we0_185 (.vf 107) (.tf we0_186 (.vf 113) (.tf we0_187 (.vf 119) (.tf we0_188 (.vf 125) (.tf we0_189 we0_165 (.tf we0_190 we0_198 (.tf we0_191 we0_236 (.tf we0_192 we0_410 (.tf we0_193 we0_411 we0_412)))))))))))),
  (391442506, 391, (.tf we0_204 we0_1 (.tf we0_205 we0_2 (.tf we0_206 (.vf 107) (.tf we0_207 (.vf 113) (.tf we0_208 (.vf 119) (.tf we0_209 (.vf 125) (.tf we0_210 we0_165 (.tf we0_211 we0_198 (.tf we0_212 we0_236 (.tf we0_213 we0_410 (.tf we0_214 we0_411 (.tf we0_215 we0_412 we0_413))))))))))))),
  (470611240, 392, (.tf we0_218 we0_1 (.tf we0_219 we0_2 (.tf we0_220 (.vf 107) (.tf we0_221 (.vf 113) (.tf we0_222 (.vf 119) (.tf we0_223 (.vf 125) (.tf we0_224 we0_165 (.tf we0_225 we0_198 (.tf we0_226 we0_236 (.tf we0_227 we0_410 (.tf we0_228 we0_411 (.tf we0_229 we0_412 we0_413))))))))))))),
  (1199136108, 393, (.tf we0_44 we0_1 (.tf we0_45 we0_2 (.tf we0_46 (.vf 107) (.tf we0_47 (.vf 113) (.tf we0_48 (.vf 119) (.tf we0_49 we0_166 (.tf we0_50 we0_199 (.tf we0_51 we0_237 (.tf we0_52 we0_280 we0_414)))))))))),
  (3405996304, 394, (.tf we0_55 we0_1 (.tf we0_56 we0_2 (.tf we0_57 (.vf 107) (.tf we0_58 (.vf 113) (.tf we0_59 (.vf 119) (.tf we0_60 we0_166 (.tf we0_61 we0_199 (.tf we0_62 we0_237 (.tf we0_63 we0_280 we0_414)))))))))),
  (773543075, 395, (.tf we0_140 we0_1 (.tf we0_141 we0_2 (.tf we0_142 (.vf 107) (.tf we0_143 (.vf 113) (.tf we0_144 (.vf 119) (.tf we0_145 we0_166 (.tf we0_146 we0_199 (.tf we0_147 we0_237 (.tf we0_148 we0_280 (.tf we0_149 we0_414 we0_415))))))))))),
  (839517020, 396, (.tf we0_152 we0_1 (.tf we0_153 we0_2 (.tf we0_154 (.vf 107) (.tf we0_155 (.vf 113) (.tf we0_156 (.vf 119) (.tf we0_157 we0_166 (.tf we0_158 we0_199 (.tf we0_159 we0_237 (.tf we0_160 we0_280 (.tf we0_161 we0_414 we0_415))))))))))),
  (2024302662, 397, (.tf we0_170 we0_1 (.tf we0_171 we0_2 (.tf we0_172 (.vf 107) (.tf we0_173 (.vf 113) (.tf we0_174 (.vf 119) (.tf we0_175 we0_166 (.tf we0_176 we0_199 (.tf we0_177 we0_237 (.tf we0_178 we0_280 (.tf we0_179 we0_414 (.tf we0_180 we0_415 we0_416)))))))))))),
  (4244357647, 398, (.tf we0_183 we0_1 (.tf we0_184 we0_2 (.tf we0_185 (.vf 107) (.tf we0_186 (.vf 113) (.tf we0_187 (.vf 119) (.tf we0_188 we0_166 (.tf we0_189 we0_199 (.tf we0_190 we0_237 (.tf we0_191 we0_280 (.tf we0_192 we0_414 (.tf we0_193 we0_415 we0_416)))))))))))),
  (3649935363, 399, (.tf we0_44 we0_1 (.tf we0_45 we0_2 (.tf we0_46 (.vf 107) (.tf we0_47 (.vf 113) (.tf we0_48 we0_167 (.tf we0_49 we0_200 (.tf we0_50 we0_238 (.tf we0_51 we0_281 (.tf we0_52 we0_330 we0_417)))))))))),
  (1561828268, 400, (.tf we0_55 we0_1 (.tf we0_56 we0_2 (.tf we0_57 (.vf 107) (.tf we0_58 (.vf 113) (.tf we0_59 we0_167 (.tf we0_60 we0_200 (.tf we0_61 we0_238 (.tf we0_62 we0_281 (.tf we0_63 we0_330 we0_417)))))))))),
  (1593626874, 401, (.tf we0_140 we0_1 (.tf we0_141 we0_2 (.tf we0_142 (.vf 107) (.tf we0_143 (.vf 113) (.tf we0_144 we0_167 (.tf we0_145 we0_200 (.tf we0_146 we0_238 (.tf we0_147 we0_281 (.tf we0_148 we0_330 (.tf we0_149 we0_417 we0_418))))))))))),
  (1659600819, 402, (.tf we0_152 we0_1 (.tf we0_153 we0_2 (.tf we0_154 (.vf 107) (.tf we0_155 (.vf 113) (.tf we0_156 we0_167 (.tf we0_157 we0_200 (.tf we0_158 we0_238 (.tf we0_159 we0_281 (.tf we0_160 we0_330 (.tf we0_161 we0_417 we0_418))))))))))),
  (872944924, 403, (.tf we0_44 we0_1 (.tf we0_45 we0_2 (.tf we0_46 (.vf 107) (.tf we0_47 we0_168 (.tf we0_48 we0_201 (.tf we0_49 we0_239 (.tf we0_50 we0_282 (.tf we0_51 we0_331 (.tf we0_52 we0_387 we0_419)))))))))),
  (3079805120, 404, (.tf we0_55 we0_1 (.tf we0_56 we0_2 (.tf we0_57 (.vf 107) (.tf we0_58 we0_168 (.tf we0_59 we0_201 (.tf we0_60 we0_239 (.tf we0_61 we0_282 (.tf we0_62 we0_331 (.tf we0_63 we0_387 we0_419)))))))))),
  (928603106, 405, (.tf we0_65 we0_1 (.tf we0_66 we0_2 (.tf we0_67 (.vf 174) (.tf we0_68 we0_202 (.tf we0_69 we0_240 (.tf we0_70 we0_283 (.tf we0_71 we0_332 (.tf we0_72 we0_388 (.fb .mul (.vf 345) (.vf 346)))))))))))]
set_option maxRecDepth 1000000 in
set_option maxHeartbeats 100000000 in
theorem wG0 : tabGood 100 wN0 = true := by kernel_rfl
end Go.Proofs.Yticbgaflhiokgaa
