/-
  'TapeMore': what names stand for, where the first rest is 2.
-/
import Derived.Test.YticbgaflhiokgaaM3n
namespace Go.Proofs.Yticbgaflhiokgaa
open Go.RowKit Ex
def we2_0 : E := (.ic .eql (.ai 9 0 (.ci (.at 1 0) (.ci (.li 11) .n0))) (.li 0))
def we2_1 : E := (.ti we2_0 (.li 0) (.ai 9 0 (.ci (.ib .quo .i64 (.at 1 0) (.li 4)) (.ci (.li 4) .n0))))
def we2_2 : E := (.fb .quo (.i2f (.ib .sub .i64 (.ai 9 0 (.ci (.ti (.ic .lss (.li 0) (.vl 3)) (.at 3 0) (.li 0)) (.ci (.li 65) .n0))) (.li 32))) (.lf 4620693217682128896))
def we2_3 : E := (.fb .quo (.i2f (.ib .sub .i64 (.ai 9 0 (.ci (.ti (.ic .lss (.li 1) (.vl 3)) (.at 3 1) (.li 1)) (.ci (.li 65) .n0))) (.li 32))) (.lf 4620693217682128896))
def we2_4 : E := (.fb .quo (.i2f (.ib .sub .i64 (.ai 9 0 (.ci (.ti (.ic .lss (.li 2) (.vl 3)) (.at 3 2) (.li 2)) (.ci (.li 65) .n0))) (.li 32))) (.lf 4620693217682128896))
def we2_5 : E := (.fb .quo (.i2f (.ib .sub .i64 (.ai 9 0 (.ci (.vi 0) (.ci (.li 17) .n0))) (.li 8))) (.lf 4616189618054758400))
def we2_6 : E := (.ti we2_0 (.li 0) (.ai 9 0 (.ci (.ib .quo .i64 (.at 1 0) (.li 40)) (.ci (.li 4) .n0))))
def we2_7 : E := (.ib .add .i64 (.li 2) (.ai 9 0 (.ci (.at 1 0) (.ci (.li 3) .n0))))
def we2_8 : E := (.ic .eql (.ai 9 0 (.ci (.at 1 1) (.ci (.li 11) .n0))) (.li 0))
def we2_9 : E := (.ti we2_8 (.li 0) (.ai 9 0 (.ci (.ib .quo .i64 (.at 1 1) (.li 4)) (.ci (.li 5) .n0))))
def we2_10 : E := (.ti we2_8 (.li 0) (.ai 9 0 (.ci (.ib .quo .i64 (.at 1 1) (.li 40)) (.ci (.li 5) .n0))))
def we2_11 : E := (.ib .add .i64 (.li 2) (.ai 9 0 (.ci (.at 1 1) (.ci (.li 3) .n0))))
def we2_12 : E := (.ic .eql (.ai 9 0 (.ci (.at 1 2) (.ci (.li 11) .n0))) (.li 0))
def we2_13 : E := (.ti we2_12 (.li 0) (.ai 9 0 (.ci (.ib .quo .i64 (.at 1 2) (.li 4)) (.ci (.li 6) .n0))))
def we2_14 : E := (.ti we2_12 (.li 0) (.ai 9 0 (.ci (.ib .quo .i64 (.at 1 2) (.li 40)) (.ci (.li 6) .n0))))
def we2_15 : E := (.ib .add .i64 (.li 2) (.ai 9 0 (.ci (.at 1 2) (.ci (.li 3) .n0))))
def we2_16 : E := (.ic .eql (.ai 9 0 (.ci (.at 1 3) (.ci (.li 11) .n0))) (.li 0))
def we2_17 : E := (.ti we2_16 (.li 0) (.ai 9 0 (.ci (.ib .quo .i64 (.at 1 3) (.li 4)) (.ci (.li 7) .n0))))
def we2_18 : E := (.ti we2_16 (.li 0) (.ai 9 0 (.ci (.ib .quo .i64 (.at 1 3) (.li 40)) (.ci (.li 7) .n0))))
def we2_19 : E := (.ib .add .i64 (.li 2) (.ai 9 0 (.ci (.at 1 3) (.ci (.li 3) .n0))))
def we2_20 : E := (.ic .eql (.ai 9 0 (.ci (.at 1 4) (.ci (.li 11) .n0))) (.li 0))
def we2_21 : E := (.ti we2_20 (.li 0) (.ai 9 0 (.ci (.ib .quo .i64 (.at 1 4) (.li 4)) (.ci (.li 8) .n0))))
def we2_22 : E := (.ti we2_20 (.li 0) (.ai 9 0 (.ci (.ib .quo .i64 (.at 1 4) (.li 40)) (.ci (.li 8) .n0))))
def we2_23 : E := (.ib .add .i64 (.li 2) (.ai 9 0 (.ci (.at 1 4) (.ci (.li 3) .n0))))
def we2_24 : E := (.ic .eql (.ai 9 0 (.ci (.at 1 5) (.ci (.li 11) .n0))) (.li 0))
def we2_25 : E := (.ti we2_24 (.li 0) (.ai 9 0 (.ci (.ib .quo .i64 (.at 1 5) (.li 4)) (.ci (.li 9) .n0))))
def we2_26 : E := (.ti we2_24 (.li 0) (.ai 9 0 (.ci (.ib .quo .i64 (.at 1 5) (.li 40)) (.ci (.li 9) .n0))))
def we2_27 : E := (.ib .add .i64 (.li 2) (.ai 9 0 (.ci (.at 1 5) (.ci (.li 3) .n0))))
def we2_28 : E := (.ic .eql (.ai 9 0 (.ci (.at 1 6) (.ci (.li 11) .n0))) (.li 0))
def we2_29 : E := (.ti we2_28 (.li 0) (.ai 9 0 (.ci (.ib .quo .i64 (.at 1 6) (.li 4)) (.ci (.li 10) .n0))))
def we2_30 : E := (.ti we2_28 (.li 0) (.ai 9 0 (.ci (.ib .quo .i64 (.at 1 6) (.li 40)) (.ci (.li 10) .n0))))
def we2_31 : E := (.ib .add .i64 (.li 2) (.ai 9 0 (.ci (.at 1 6) (.ci (.li 3) .n0))))
def we2_32 : E := (.ic .eql (.ai 9 0 (.ci (.at 1 7) (.ci (.li 11) .n0))) (.li 0))
def we2_33 : E := (.ti we2_32 (.li 0) (.ai 9 0 (.ci (.ib .quo .i64 (.at 1 7) (.li 4)) (.ci (.li 11) .n0))))
def we2_34 : E := (.ti we2_32 (.li 0) (.ai 9 0 (.ci (.ib .quo .i64 (.at 1 7) (.li 40)) (.ci (.li 11) .n0))))
def we2_35 : E := (.ib .add .i64 (.li 2) (.ai 9 0 (.ci (.at 1 7) (.ci (.li 3) .n0))))
def we2_36 : E := (.ib .quo .i64 (.vi 0) (.li 3))
def we2_37 : E := (.ai 9 0 (.ci (.ib .add .i64 we2_36 (.li 0)) (.ci (.li 3) .n0)))
def we2_38 : E := (.ib .sub .i64 (.ib .sub .i64 (.li 11) we2_37) (.li 9))
def we2_39 : E := (.ai 9 0 (.ci (.ib .add .i64 we2_36 (.li 1)) (.ci (.li 3) .n0)))
def we2_40 : E := (.ib .sub .i64 (.ib .sub .i64 (.li 11) we2_39) (.li 9))
def we2_41 : E := (.ai 9 0 (.ci (.ib .add .i64 we2_36 (.li 2)) (.ci (.li 3) .n0)))
def we2_42 : E := (.ib .sub .i64 (.ib .sub .i64 (.li 11) we2_41) (.li 9))
def we2_43 : E := (.ib .sub .i64 (.ib .sub .i64 (.li 10) we2_37) (.li 8))
def we2_44 : E := (.ib .sub .i64 (.ib .sub .i64 (.li 10) we2_39) (.li 8))
def we2_45 : E := (.ib .sub .i64 (.ib .sub .i64 (.li 10) we2_41) (.li 8))
def we2_46 : E := (.ib .sub .i64 (.ib .sub .i64 (.li 9) we2_37) (.li 7))
def we2_47 : E := (.ib .sub .i64 (.ib .sub .i64 (.li 9) we2_39) (.li 7))
def we2_48 : E := (.ib .sub .i64 (.ib .sub .i64 (.li 9) we2_41) (.li 7))
def we2_49 : E := (.ib .sub .i64 (.ib .sub .i64 (.li 8) we2_37) (.li 6))
def we2_50 : E := (.ib .sub .i64 (.ib .sub .i64 (.li 8) we2_39) (.li 6))
def we2_51 : E := (.ib .sub .i64 (.ib .sub .i64 (.li 8) we2_41) (.li 6))
def we2_52 : E := (.ib .sub .i64 (.ib .sub .i64 (.li 7) we2_37) (.li 5))
def we2_53 : E := (.ib .sub .i64 (.ib .sub .i64 (.li 7) we2_39) (.li 5))
def we2_54 : E := (.ib .sub .i64 (.ib .sub .i64 (.li 7) we2_41) (.li 5))
def we2_55 : E := (.ib .sub .i64 (.ib .sub .i64 (.li 6) we2_37) (.li 4))
def we2_56 : E := (.ib .sub .i64 (.ib .sub .i64 (.li 6) we2_39) (.li 4))
def we2_57 : E := (.ib .sub .i64 (.ib .sub .i64 (.li 6) we2_41) (.li 4))
def we2_58 : E := (.ib .sub .i64 (.ib .sub .i64 (.li 5) we2_37) (.li 3))
def we2_59 : E := (.ib .sub .i64 (.ib .sub .i64 (.li 5) we2_39) (.li 3))
def we2_60 : E := (.ib .sub .i64 (.ib .sub .i64 (.li 5) we2_41) (.li 3))
def we2_61 : E := (.ib .sub .i64 (.ib .sub .i64 (.li 4) we2_37) (.li 2))
def we2_62 : E := (.ib .sub .i64 (.ib .sub .i64 (.li 4) we2_39) (.li 2))
def we2_63 : E := (.ib .sub .i64 (.ib .sub .i64 (.li 4) we2_41) (.li 2))
def we2_64 : E := (.ib .sub .i64 (.ib .sub .i64 (.li 3) we2_37) (.li 1))
def we2_65 : E := (.ib .sub .i64 (.ib .sub .i64 (.li 3) we2_39) (.li 1))
def we2_66 : E := (.ib .sub .i64 (.ib .sub .i64 (.li 3) we2_41) (.li 1))
def we2_67 : E := (.ai 9 0 (.ci (.vi 4) (.ci (.li 12) .n0)))
def we2_68 : E := (.ic .eql we2_67 (.li 0))
def we2_69 : E := (.ic .eql we2_67 (.li 1))
def we2_70 : E := (.ic .eql we2_67 (.li 2))
def we2_71 : E := (.ic .eql we2_67 (.li 3))
def we2_72 : E := (.ic .eql we2_67 (.li 4))
def we2_73 : E := (.ic .eql we2_67 (.li 5))
def we2_74 : E := (.ic .eql we2_67 (.li 6))
def we2_75 : E := (.ic .eql we2_67 (.li 7))
def we2_76 : E := (.ic .eql we2_67 (.li 8))
def we2_77 : E := (.ic .eql we2_67 (.li 9))
def we2_78 : E := (.ic .eql we2_67 (.li 10))
def we2_79 : E := (.ib .quo .i64 (.vi 4) (.li 9))
def we2_80 : E := (.ai 9 0 (.ci we2_79 (.ci (.li 12) .n0)))
def we2_81 : E := (.ic .eql we2_80 (.li 0))
def we2_82 : E := (.ic .eql we2_80 (.li 1))
def we2_83 : E := (.ic .eql we2_80 (.li 2))
def we2_84 : E := (.ic .eql we2_80 (.li 3))
def we2_85 : E := (.ic .eql we2_80 (.li 4))
def we2_86 : E := (.ic .eql we2_80 (.li 5))
def we2_87 : E := (.ic .eql we2_80 (.li 6))
def we2_88 : E := (.ic .eql we2_80 (.li 7))
def we2_89 : E := (.ic .eql we2_80 (.li 8))
def we2_90 : E := (.ic .eql we2_80 (.li 9))
def we2_91 : E := (.ic .eql we2_80 (.li 10))
def we2_92 : E := (.ai 9 0 (.ci (.vi 4) (.ci (.li 11) .n0)))
def we2_93 : E := (.ic .eql we2_92 (.li 0))
def we2_94 : E := (.ic .eql we2_92 (.li 1))
def we2_95 : E := (.ic .eql we2_92 (.li 2))
def we2_96 : E := (.ic .eql we2_92 (.li 3))
def we2_97 : E := (.ic .eql we2_92 (.li 4))
def we2_98 : E := (.ic .eql we2_92 (.li 5))
def we2_99 : E := (.ic .eql we2_92 (.li 6))
def we2_100 : E := (.ic .eql we2_92 (.li 7))
def we2_101 : E := (.ic .eql we2_92 (.li 8))
def we2_102 : E := (.ic .eql we2_92 (.li 9))
def we2_103 : E := (.ai 9 0 (.ci we2_79 (.ci (.li 11) .n0)))
def we2_104 : E := (.ic .eql we2_103 (.li 0))
def we2_105 : E := (.ic .eql we2_103 (.li 1))
def we2_106 : E := (.ic .eql we2_103 (.li 2))
def we2_107 : E := (.ic .eql we2_103 (.li 3))
def we2_108 : E := (.ic .eql we2_103 (.li 4))
def we2_109 : E := (.ic .eql we2_103 (.li 5))
def we2_110 : E := (.ic .eql we2_103 (.li 6))
def we2_111 : E := (.ic .eql we2_103 (.li 7))
def we2_112 : E := (.ic .eql we2_103 (.li 8))
def we2_113 : E := (.ic .eql we2_103 (.li 9))
def we2_114 : E := (.ai 9 0 (.ci (.vi 4) (.ci (.li 10) .n0)))
def we2_115 : E := (.ic .eql we2_114 (.li 0))
def we2_116 : E := (.ic .eql we2_114 (.li 1))
def we2_117 : E := (.ic .eql we2_114 (.li 2))
def we2_118 : E := (.ic .eql we2_114 (.li 3))
def we2_119 : E := (.ic .eql we2_114 (.li 4))
def we2_120 : E := (.ic .eql we2_114 (.li 5))
def we2_121 : E := (.ic .eql we2_114 (.li 6))
def we2_122 : E := (.ic .eql we2_114 (.li 7))
def we2_123 : E := (.ic .eql we2_114 (.li 8))
def we2_124 : E := (.ai 9 0 (.ci we2_79 (.ci (.li 10) .n0)))
def we2_125 : E := (.ic .eql we2_124 (.li 0))
def we2_126 : E := (.ic .eql we2_124 (.li 1))
def we2_127 : E := (.ic .eql we2_124 (.li 2))
def we2_128 : E := (.ic .eql we2_124 (.li 3))
def we2_129 : E := (.ic .eql we2_124 (.li 4))
def we2_130 : E := (.ic .eql we2_124 (.li 5))
def we2_131 : E := (.ic .eql we2_124 (.li 6))
def we2_132 : E := (.ic .eql we2_124 (.li 7))
def we2_133 : E := (.ic .eql we2_124 (.li 8))
def we2_134 : E := (.ai 9 0 (.ci we2_79 (.ci (.li 9) .n0)))
def we2_135 : E := (.ic .eql we2_134 (.li 0))
def we2_136 : E := (.ic .eql we2_134 (.li 1))
def we2_137 : E := (.ic .eql we2_134 (.li 2))
def we2_138 : E := (.ic .eql we2_134 (.li 3))
def we2_139 : E := (.ic .eql we2_134 (.li 4))
def we2_140 : E := (.ic .eql we2_134 (.li 5))
def we2_141 : E := (.ic .eql we2_134 (.li 6))
def we2_142 : E := (.ic .eql we2_134 (.li 7))
def we2_143 : E := (.ai 9 0 (.ci (.vi 4) (.ci (.li 8) .n0)))
def we2_144 : E := (.ic .eql we2_143 (.li 0))
def we2_145 : E := (.ic .eql we2_143 (.li 1))
def we2_146 : E := (.ic .eql we2_143 (.li 2))
def we2_147 : E := (.ic .eql we2_143 (.li 3))
def we2_148 : E := (.ic .eql we2_143 (.li 4))
def we2_149 : E := (.ic .eql we2_143 (.li 5))
def we2_150 : E := (.ic .eql we2_143 (.li 6))
def we2_151 : E := (.ai 9 0 (.ci we2_79 (.ci (.li 8) .n0)))
def we2_152 : E := (.ic .eql we2_151 (.li 0))
def we2_153 : E := (.ic .eql we2_151 (.li 1))
def we2_154 : E := (.ic .eql we2_151 (.li 2))
def we2_155 : E := (.ic .eql we2_151 (.li 3))
def we2_156 : E := (.ic .eql we2_151 (.li 4))
def we2_157 : E := (.ic .eql we2_151 (.li 5))
def we2_158 : E := (.ic .eql we2_151 (.li 6))
def we2_159 : E := (.ai 9 0 (.ci (.vi 4) (.ci (.li 7) .n0)))
def we2_160 : E := (.ic .eql we2_159 (.li 0))
def we2_161 : E := (.ic .eql we2_159 (.li 1))
def we2_162 : E := (.ic .eql we2_159 (.li 2))
def we2_163 : E := (.ic .eql we2_159 (.li 3))
def we2_164 : E := (.ic .eql we2_159 (.li 4))
def we2_165 : E := (.ic .eql we2_159 (.li 5))
def we2_166 : E := (.ai 9 0 (.ci we2_79 (.ci (.li 7) .n0)))
def we2_167 : E := (.ic .eql we2_166 (.li 0))
def we2_168 : E := (.ic .eql we2_166 (.li 1))
def we2_169 : E := (.ic .eql we2_166 (.li 2))
def we2_170 : E := (.ic .eql we2_166 (.li 3))
def we2_171 : E := (.ic .eql we2_166 (.li 4))
def we2_172 : E := (.ic .eql we2_166 (.li 5))
def we2_173 : E := (.ai 9 0 (.ci (.vi 4) (.ci (.li 6) .n0)))
def we2_174 : E := (.ic .eql we2_173 (.li 0))
def we2_175 : E := (.ic .eql we2_173 (.li 1))
def we2_176 : E := (.ic .eql we2_173 (.li 2))
def we2_177 : E := (.ic .eql we2_173 (.li 3))
def we2_178 : E := (.ic .eql we2_173 (.li 4))
def we2_179 : E := (.ai 9 0 (.ci we2_79 (.ci (.li 6) .n0)))
def we2_180 : E := (.ic .eql we2_179 (.li 0))
def we2_181 : E := (.ic .eql we2_179 (.li 1))
def we2_182 : E := (.ic .eql we2_179 (.li 2))
def we2_183 : E := (.ic .eql we2_179 (.li 3))
def we2_184 : E := (.ic .eql we2_179 (.li 4))
def we2_185 : E := (.ai 9 0 (.ci (.vi 4) (.ci (.li 5) .n0)))
def we2_186 : E := (.ic .eql we2_185 (.li 0))
def we2_187 : E := (.ic .eql we2_185 (.li 1))
def we2_188 : E := (.ic .eql we2_185 (.li 2))
def we2_189 : E := (.ic .eql we2_185 (.li 3))
def we2_190 : E := (.ai 9 0 (.ci we2_79 (.ci (.li 5) .n0)))
def we2_191 : E := (.ic .eql we2_190 (.li 0))
def we2_192 : E := (.ic .eql we2_190 (.li 1))
def we2_193 : E := (.ic .eql we2_190 (.li 2))
def we2_194 : E := (.ic .eql we2_190 (.li 3))
def we2_195 : E := (.ai 9 0 (.ci (.vi 4) (.ci (.li 4) .n0)))
def we2_196 : E := (.ai 9 0 (.ci we2_79 (.ci (.li 4) .n0)))
def we2_197 : E := (.ai 9 0 (.ci (.vi 4) (.ci (.li 13) .n0)))
def we2_198 : E := (.ic .eql we2_197 (.li 0))
def we2_199 : E := (.ic .eql we2_197 (.li 1))
def we2_200 : E := (.ic .eql we2_197 (.li 2))
def we2_201 : E := (.ic .eql we2_197 (.li 3))
def we2_202 : E := (.ic .eql we2_197 (.li 4))
def we2_203 : E := (.ic .eql we2_197 (.li 5))
def we2_204 : E := (.ic .eql we2_197 (.li 6))
def we2_205 : E := (.ic .eql we2_197 (.li 7))
def we2_206 : E := (.ic .eql we2_197 (.li 8))
def we2_207 : E := (.ic .eql we2_197 (.li 9))
def we2_208 : E := (.ic .eql we2_197 (.li 10))
def we2_209 : E := (.ic .eql we2_197 (.li 11))
def we2_210 : E := (.fb .mul (.vf 175) (.vf 176))
def we2_211 : E := (.ai 9 0 (.ci we2_79 (.ci (.li 13) .n0)))
def we2_212 : E := (.ic .eql we2_211 (.li 0))
def we2_213 : E := (.ic .eql we2_211 (.li 1))
def we2_214 : E := (.ic .eql we2_211 (.li 2))
def we2_215 : E := (.ic .eql we2_211 (.li 3))
def we2_216 : E := (.ic .eql we2_211 (.li 4))
def we2_217 : E := (.ic .eql we2_211 (.li 5))
def we2_218 : E := (.ic .eql we2_211 (.li 6))
def we2_219 : E := (.ic .eql we2_211 (.li 7))
def we2_220 : E := (.ic .eql we2_211 (.li 8))
def we2_221 : E := (.ic .eql we2_211 (.li 9))
def we2_222 : E := (.ic .eql we2_211 (.li 10))
def we2_223 : E := (.ic .eql we2_211 (.li 11))
def we2_224 : E := (.fb .mul (.vf 177) (.vf 178))
def we2_225 : E := (.fb .mul (.vf 179) (.vf 180))
def we2_226 : E := (.fb .mul (.vf 183) (.vf 184))
def we2_227 : E := (.fb .mul (.vf 185) (.vf 186))
def we2_228 : E := (.fb .mul (.vf 187) (.vf 188))
def we2_229 : E := (.fb .mul (.vf 189) (.vf 190))
def we2_230 : E := (.fb .mul (.vf 191) (.vf 192))
def we2_231 : E := (.ai 9 0 (.ci (.vi 4) (.ci (.li 14) .n0)))
def we2_232 : E := (.ic .eql we2_231 (.li 0))
def we2_233 : E := (.ic .eql we2_231 (.li 1))
def we2_234 : E := (.ic .eql we2_231 (.li 2))
def we2_235 : E := (.ic .eql we2_231 (.li 3))
def we2_236 : E := (.ic .eql we2_231 (.li 4))
def we2_237 : E := (.ic .eql we2_231 (.li 5))
def we2_238 : E := (.ic .eql we2_231 (.li 6))
def we2_239 : E := (.ic .eql we2_231 (.li 7))
def we2_240 : E := (.ic .eql we2_231 (.li 8))
def we2_241 : E := (.ic .eql we2_231 (.li 9))
def we2_242 : E := (.ic .eql we2_231 (.li 10))
def we2_243 : E := (.ic .eql we2_231 (.li 11))
def we2_244 : E := (.ic .eql we2_231 (.li 12))
def we2_245 : E := (.fb .mul (.vf 193) (.vf 194))
def we2_246 : E := (.ai 9 0 (.ci we2_79 (.ci (.li 14) .n0)))
def we2_247 : E := (.ic .eql we2_246 (.li 0))
def we2_248 : E := (.ic .eql we2_246 (.li 1))
def we2_249 : E := (.ic .eql we2_246 (.li 2))
def we2_250 : E := (.ic .eql we2_246 (.li 3))
def we2_251 : E := (.ic .eql we2_246 (.li 4))
def we2_252 : E := (.ic .eql we2_246 (.li 5))
def we2_253 : E := (.ic .eql we2_246 (.li 6))
def we2_254 : E := (.ic .eql we2_246 (.li 7))
def we2_255 : E := (.ic .eql we2_246 (.li 8))
def we2_256 : E := (.ic .eql we2_246 (.li 9))
def we2_257 : E := (.ic .eql we2_246 (.li 10))
def we2_258 : E := (.ic .eql we2_246 (.li 11))
def we2_259 : E := (.ic .eql we2_246 (.li 12))
def we2_260 : E := (.fb .mul (.vf 195) (.vf 196))
def we2_261 : E := (.fb .mul (.vf 197) (.vf 198))
def we2_262 : E := (.fb .mul (.vf 219) (.vf 220))
def we2_263 : E := (.fb .mul (.vf 204) (.vf 205))
def we2_264 : E := (.fb .mul (.vf 206) (.vf 207))
def we2_265 : E := (.fb .mul (.vf 208) (.vf 209))
def we2_266 : E := (.fb .mul (.vf 210) (.vf 211))
def we2_267 : E := (.ai 9 0 (.ci (.vi 4) (.ci (.li 15) .n0)))
def we2_268 : E := (.ic .eql we2_267 (.li 0))
def we2_269 : E := (.ic .eql we2_267 (.li 1))
def we2_270 : E := (.ic .eql we2_267 (.li 2))
def we2_271 : E := (.ic .eql we2_267 (.li 3))
def we2_272 : E := (.ic .eql we2_267 (.li 4))
def we2_273 : E := (.ic .eql we2_267 (.li 5))
def we2_274 : E := (.ic .eql we2_267 (.li 6))
def we2_275 : E := (.ic .eql we2_267 (.li 7))
def we2_276 : E := (.ic .eql we2_267 (.li 8))
def we2_277 : E := (.ic .eql we2_267 (.li 9))
def we2_278 : E := (.ic .eql we2_267 (.li 10))
def we2_279 : E := (.ic .eql we2_267 (.li 11))
def we2_280 : E := (.ic .eql we2_267 (.li 12))
def we2_281 : E := (.ic .eql we2_267 (.li 13))
def we2_282 : E := (.fb .mul (.vf 212) (.vf 213))
def we2_283 : E := (.ai 9 0 (.ci we2_79 (.ci (.li 15) .n0)))
def we2_284 : E := (.ic .eql we2_283 (.li 0))
def we2_285 : E := (.ic .eql we2_283 (.li 1))
def we2_286 : E := (.ic .eql we2_283 (.li 2))
def we2_287 : E := (.ic .eql we2_283 (.li 3))
def we2_288 : E := (.ic .eql we2_283 (.li 4))
def we2_289 : E := (.ic .eql we2_283 (.li 5))
def we2_290 : E := (.ic .eql we2_283 (.li 6))
def we2_291 : E := (.ic .eql we2_283 (.li 7))
def we2_292 : E := (.ic .eql we2_283 (.li 8))
def we2_293 : E := (.ic .eql we2_283 (.li 9))
def we2_294 : E := (.ic .eql we2_283 (.li 10))
def we2_295 : E := (.ic .eql we2_283 (.li 11))
def we2_296 : E := (.ic .eql we2_283 (.li 12))
def we2_297 : E := (.ic .eql we2_283 (.li 13))
def we2_298 : E := (.fb .mul (.vf 214) (.vf 215))
def we2_299 : E := (.fb .mul (.vf 216) (.vf 217))
def we2_300 : E := (.fb .mul (.vf 105) (.vf 181))
def we2_301 : E := (.fb .mul (.vf 240) (.vf 241))
def we2_302 : E := (.fb .mul (.vf 242) (.vf 243))
def we2_303 : E := (.fb .mul (.vf 105) (.vf 202))
def we2_304 : E := (.fb .mul (.vf 246) (.vf 247))
def we2_305 : E := (.fb .mul (.vf 105) (.vf 226))
def we2_306 : E := (.fb .mul (.vf 228) (.vf 229))
def we2_307 : E := (.fb .mul (.vf 230) (.vf 231))
def we2_308 : E := (.fb .mul (.vf 232) (.vf 233))
def we2_309 : E := (.ai 9 0 (.ci (.vi 4) (.ci (.li 16) .n0)))
def we2_310 : E := (.ic .eql we2_309 (.li 0))
def we2_311 : E := (.ic .eql we2_309 (.li 1))
def we2_312 : E := (.ic .eql we2_309 (.li 2))
def we2_313 : E := (.ic .eql we2_309 (.li 3))
def we2_314 : E := (.ic .eql we2_309 (.li 4))
def we2_315 : E := (.ic .eql we2_309 (.li 5))
def we2_316 : E := (.ic .eql we2_309 (.li 6))
def we2_317 : E := (.ic .eql we2_309 (.li 7))
def we2_318 : E := (.ic .eql we2_309 (.li 8))
def we2_319 : E := (.ic .eql we2_309 (.li 9))
def we2_320 : E := (.ic .eql we2_309 (.li 10))
def we2_321 : E := (.ic .eql we2_309 (.li 11))
def we2_322 : E := (.ic .eql we2_309 (.li 12))
def we2_323 : E := (.ic .eql we2_309 (.li 13))
def we2_324 : E := (.ic .eql we2_309 (.li 14))
def we2_325 : E := (.fb .mul (.vf 234) (.vf 235))
def we2_326 : E := (.ai 9 0 (.ci we2_79 (.ci (.li 16) .n0)))
def we2_327 : E := (.ic .eql we2_326 (.li 0))
def we2_328 : E := (.ic .eql we2_326 (.li 1))
def we2_329 : E := (.ic .eql we2_326 (.li 2))
def we2_330 : E := (.ic .eql we2_326 (.li 3))
def we2_331 : E := (.ic .eql we2_326 (.li 4))
def we2_332 : E := (.ic .eql we2_326 (.li 5))
def we2_333 : E := (.ic .eql we2_326 (.li 6))
def we2_334 : E := (.ic .eql we2_326 (.li 7))
def we2_335 : E := (.ic .eql we2_326 (.li 8))
def we2_336 : E := (.ic .eql we2_326 (.li 9))
def we2_337 : E := (.ic .eql we2_326 (.li 10))
def we2_338 : E := (.ic .eql we2_326 (.li 11))
def we2_339 : E := (.ic .eql we2_326 (.li 12))
def we2_340 : E := (.ic .eql we2_326 (.li 13))
def we2_341 : E := (.ic .eql we2_326 (.li 14))
def we2_342 : E := (.fb .mul (.vf 236) (.vf 237))
def we2_343 : E := (.fb .mul (.vf 238) (.vf 239))
def we2_344 : E := (.fb .mul (.vf 111) (.vf 181))
def we2_345 : E := (.fb .mul (.vf 263) (.vf 264))
def we2_346 : E := (.fb .mul (.vf 265) (.vf 266))
def we2_347 : E := (.fb .mul (.vf 267) (.vf 268))
def we2_348 : E := (.fb .mul (.vf 111) (.vf 202))
def we2_349 : E := (.fb .mul (.vf 271) (.vf 272))
def we2_350 : E := (.fb .mul (.vf 273) (.vf 274))
def we2_351 : E := (.fb .mul (.vf 111) (.vf 226))
def we2_352 : E := (.fb .mul (.vf 277) (.vf 278))
def we2_353 : E := (.fb .mul (.vf 111) (.vf 252))
def we2_354 : E := (.fb .mul (.vf 253) (.vf 254))
def we2_355 : E := (.fb .mul (.vf 255) (.vf 256))
def we2_356 : E := (.ai 9 0 (.ci (.vi 4) (.ci (.li 17) .n0)))
def we2_357 : E := (.ic .eql we2_356 (.li 0))
def we2_358 : E := (.ic .eql we2_356 (.li 1))
def we2_359 : E := (.ic .eql we2_356 (.li 2))
def we2_360 : E := (.ic .eql we2_356 (.li 3))
def we2_361 : E := (.ic .eql we2_356 (.li 4))
def we2_362 : E := (.ic .eql we2_356 (.li 5))
def we2_363 : E := (.ic .eql we2_356 (.li 6))
def we2_364 : E := (.ic .eql we2_356 (.li 7))
def we2_365 : E := (.ic .eql we2_356 (.li 8))
def we2_366 : E := (.ic .eql we2_356 (.li 9))
def we2_367 : E := (.ic .eql we2_356 (.li 10))
def we2_368 : E := (.ic .eql we2_356 (.li 11))
def we2_369 : E := (.ic .eql we2_356 (.li 12))
def we2_370 : E := (.ic .eql we2_356 (.li 13))
def we2_371 : E := (.ic .eql we2_356 (.li 14))
def we2_372 : E := (.ic .eql we2_356 (.li 15))
def we2_373 : E := (.fb .mul (.vf 257) (.vf 258))
def we2_374 : E := (.ai 9 0 (.ci we2_79 (.ci (.li 17) .n0)))
def we2_375 : E := (.ic .eql we2_374 (.li 0))
def we2_376 : E := (.ic .eql we2_374 (.li 1))
def we2_377 : E := (.ic .eql we2_374 (.li 2))
def we2_378 : E := (.ic .eql we2_374 (.li 3))
def we2_379 : E := (.ic .eql we2_374 (.li 4))
def we2_380 : E := (.ic .eql we2_374 (.li 5))
def we2_381 : E := (.ic .eql we2_374 (.li 6))
def we2_382 : E := (.ic .eql we2_374 (.li 7))
def we2_383 : E := (.ic .eql we2_374 (.li 8))
def we2_384 : E := (.ic .eql we2_374 (.li 9))
def we2_385 : E := (.ic .eql we2_374 (.li 10))
def we2_386 : E := (.ic .eql we2_374 (.li 11))
def we2_387 : E := (.ic .eql we2_374 (.li 12))
def we2_388 : E := (.ic .eql we2_374 (.li 13))
def we2_389 : E := (.ic .eql we2_374 (.li 14))
def we2_390 : E := (.ic .eql we2_374 (.li 15))
def we2_391 : E := (.fb .mul (.vf 259) (.vf 260))
def we2_392 : E := (.fb .mul (.vf 261) (.vf 262))
def we2_393 : E := (.fb .mul (.vf 117) (.vf 181))
def we2_394 : E := (.fb .mul (.vf 292) (.vf 293))
def we2_395 : E := (.fb .mul (.vf 294) (.vf 295))
def we2_396 : E := (.fb .mul (.vf 296) (.vf 297))
def we2_397 : E := (.fb .mul (.vf 298) (.vf 299))
def we2_398 : E := (.fb .mul (.vf 117) (.vf 202))
def we2_399 : E := (.fb .mul (.vf 302) (.vf 303))
def we2_400 : E := (.fb .mul (.vf 304) (.vf 305))
def we2_401 : E := (.fb .mul (.vf 306) (.vf 307))
def we2_402 : E := (.fb .mul (.vf 117) (.vf 226))
def we2_403 : E := (.fb .mul (.vf 310) (.vf 311))
def we2_404 : E := (.fb .mul (.vf 312) (.vf 313))
def we2_405 : E := (.fb .mul we2_228 (.vf 252))
def we2_406 : E := (.fb .mul (.vf 316) (.vf 317))
def we2_407 : E := (.fb .mul we2_265 (.vf 283))
def we2_408 : E := (.fb .mul (.vf 284) (.vf 285))
def we2_409 : E := (.ai 9 0 (.ci (.vi 4) (.ci (.li 18) .n0)))
def we2_410 : E := (.ic .eql we2_409 (.li 0))
def we2_411 : E := (.ic .eql we2_409 (.li 1))
def we2_412 : E := (.ic .eql we2_409 (.li 2))
def we2_413 : E := (.ic .eql we2_409 (.li 3))
def we2_414 : E := (.ic .eql we2_409 (.li 4))
def we2_415 : E := (.ic .eql we2_409 (.li 5))
def we2_416 : E := (.ic .eql we2_409 (.li 6))
def we2_417 : E := (.ic .eql we2_409 (.li 7))
def we2_418 : E := (.ic .eql we2_409 (.li 8))
def we2_419 : E := (.ic .eql we2_409 (.li 9))
def we2_420 : E := (.ic .eql we2_409 (.li 10))
def we2_421 : E := (.ic .eql we2_409 (.li 11))
def we2_422 : E := (.ic .eql we2_409 (.li 12))
def we2_423 : E := (.ic .eql we2_409 (.li 13))
def we2_424 : E := (.ic .eql we2_409 (.li 14))
def we2_425 : E := (.ic .eql we2_409 (.li 15))
def we2_426 : E := (.ic .eql we2_409 (.li 16))
def we2_427 : E := (.fb .mul (.vf 286) (.vf 287))
def we2_428 : E := (.ai 9 0 (.ci we2_79 (.ci (.li 18) .n0)))
def we2_429 : E := (.ic .eql we2_428 (.li 0))
def we2_430 : E := (.ic .eql we2_428 (.li 1))
def we2_431 : E := (.ic .eql we2_428 (.li 2))
def we2_432 : E := (.ic .eql we2_428 (.li 3))
def we2_433 : E := (.ic .eql we2_428 (.li 4))
def we2_434 : E := (.ic .eql we2_428 (.li 5))
def we2_435 : E := (.ic .eql we2_428 (.li 6))
def we2_436 : E := (.ic .eql we2_428 (.li 7))
def we2_437 : E := (.ic .eql we2_428 (.li 8))
def we2_438 : E := (.ic .eql we2_428 (.li 9))
def we2_439 : E := (.ic .eql we2_428 (.li 10))
def we2_440 : E := (.ic .eql we2_428 (.li 11))
def we2_441 : E := (.ic .eql we2_428 (.li 12))
def we2_442 : E := (.ic .eql we2_428 (.li 13))
def we2_443 : E := (.ic .eql we2_428 (.li 14))
def we2_444 : E := (.ic .eql we2_428 (.li 15))
def we2_445 : E := (.ic .eql we2_428 (.li 16))
def we2_446 : E := (.fb .mul (.vf 288) (.vf 289))
def we2_447 : E := (.fb .mul (.vf 290) (.vf 291))
def we2_448 : E := (.fb .mul (.vf 123) (.vf 181))
def we2_449 : E := (.fb .mul (.vf 329) (.vf 330))
def we2_450 : E := (.fb .mul (.vf 331) (.vf 332))
def we2_451 : E := (.fb .mul (.vf 333) (.vf 334))
def we2_452 : E := (.fb .mul (.vf 335) (.vf 336))
def we2_453 : E := (.fb .mul (.vf 337) (.vf 338))
def we2_454 : E := (.fb .mul (.vf 123) (.vf 202))
def we2_455 : E := (.fb .mul (.vf 341) (.vf 342))
def we2_456 : E := (.fb .mul (.vf 343) (.vf 344))
def we2_457 : E := (.fb .mul (.vf 345) (.vf 346))
def we2_458 : E := (.fb .mul (.vf 347) (.vf 348))
def we2_459 : E := (.fb .mul we2_227 (.vf 226))
def we2_460 : E := (.fb .mul (.vf 351) (.vf 352))
def we2_461 : E := (.fb .mul (.vf 353) (.vf 354))
def we2_462 : E := (.fb .mul (.vf 355) (.vf 356))
def we2_463 : E := (.fb .mul we2_264 (.vf 252))
def we2_464 : E := (.fb .mul (.vf 359) (.vf 360))
def we2_465 : E := (.fb .mul (.vf 361) (.vf 362))
def we2_466 : E := (.fb .mul we2_307 (.vf 283))
def we2_467 : E := (.fb .mul (.vf 365) (.vf 366))
def we2_468 : E := (.fb .mul we2_355 (.vf 322))
def we2_469 : E := (.ai 9 0 (.ci (.vi 4) (.ci (.li 19) .n0)))
def we2_470 : E := (.fb .mul (.vf 323) (.vf 324))
def we2_471 : E := (.ai 9 0 (.ci we2_79 (.ci (.li 19) .n0)))
def we2_472 : E := (.fb .mul (.vf 325) (.vf 326))
def we2_473 : E := (.fb .mul (.vf 327) (.vf 328))
def we2_474 : E := (.fb .mul (.vf 129) (.vf 181))
def we2_475 : E := (.fb .mul (.vf 377) (.vf 378))
def we2_476 : E := (.fb .mul (.vf 379) (.vf 380))
def we2_477 : E := (.fb .mul (.vf 381) (.vf 382))
def we2_478 : E := (.fb .mul (.vf 383) (.vf 384))
def we2_479 : E := (.fb .mul (.vf 385) (.vf 386))
def we2_480 : E := (.fb .mul (.vf 387) (.vf 388))
def we2_481 : E := (.fb .mul we2_226 (.vf 202))
def we2_482 : E := (.fb .mul (.vf 391) (.vf 392))
def we2_483 : E := (.fb .mul (.vf 393) (.vf 394))
def we2_484 : E := (.fb .mul (.vf 395) (.vf 396))
def we2_485 : E := (.fb .mul (.vf 397) (.vf 398))
def we2_486 : E := (.fb .mul (.vf 399) (.vf 400))
def we2_487 : E := (.fb .mul we2_263 (.vf 226))
def we2_488 : E := (.fb .mul (.vf 403) (.vf 404))
def we2_489 : E := (.fb .mul (.vf 405) (.vf 406))
def we2_490 : E := (.fb .mul (.vf 407) (.vf 408))
def we2_491 : E := (.fb .mul (.vf 409) (.vf 410))
def we2_492 : E := (.fb .mul we2_306 (.vf 252))
def we2_493 : E := (.fb .mul (.vf 413) (.vf 414))
def we2_494 : E := (.fb .mul (.vf 415) (.vf 416))
def we2_495 : E := (.fb .mul (.vf 417) (.vf 418))
def we2_496 : E := (.fb .mul we2_354 (.vf 283))
def we2_497 : E := (.fb .mul (.vf 421) (.vf 422))
def we2_498 : E := (.fb .mul (.vf 423) (.vf 424))
def we2_499 : E := (.fb .mul we2_408 (.vf 322))
def we2_500 : E := (.fb .mul (.vf 427) (.vf 428))
def wN2 : Nms := [(3457082686, 100, (.tf (.ic .eql we2_1 (.li 0)) we2_2 (.tf (.ic .eql we2_1 (.li 1)) we2_3 (.tf (.ic .eql we2_1 (.li 2)) we2_4 we2_5)))),
  (2088831259, 101, (.tf (.ic .eql we2_6 (.li 0)) we2_2 (.tf (.ic .eql we2_6 (.li 1)) we2_3 (.tf (.ic .eql we2_6 (.li 2)) we2_4 we2_5)))),
  (635087908, 102, (.tf (.ic .eql we2_7 (.li 3)) (.fb .sub (.vf 100) (.vf 101)) (.fb .mul (.vf 100) (.vf 101)))),
  (4003206554, 103, (.tf (.ic .eql we2_7 (.li 2)) (.fb .add (.vf 100) (.vf 101)) (.vf 102))),
  (3999772632, 104, (.tf (.ic .eql (.ai 9 0 (.ci (.at 1 0) (.ci (.li 7) .n0))) (.li 0)) (.fb .quo (.vf 100) (.vf 101)) (.vf 103))),
  (1218405719, 105, (.tf we2_0 (.tf we2_0 (.fb .quo (.i2f (.ib .sub .i64 (.ai 9 0 (.ci (.ib .quo .i64 (.at 1 0) (.li 11)) (.ci (.li 33) .n0))) (.li 16))) (.lf 4620693217682128896)) (.lf 0)) (.tf (.vb 2) (.vf 104) (.vf 103)))),
  (3576773631, 106, (.tf (.ic .eql we2_9 (.li 0)) we2_2 (.tf (.ic .eql we2_9 (.li 1)) we2_3 (.tf (.ic .eql we2_9 (.li 2)) we2_4 (.tf (.ic .eql we2_9 (.li 3)) we2_5 (.vf 105)))))),
  (1752438395, 107, (.tf (.ic .eql we2_10 (.li 0)) we2_2 (.tf (.ic .eql we2_10 (.li 1)) we2_3 (.tf (.ic .eql we2_10 (.li 2)) we2_4 (.tf (.ic .eql we2_10 (.li 3)) we2_5 (.vf 105)))))),
  (1263623538, 108, (.tf (.ic .eql we2_11 (.li 3)) (.fb .sub (.vf 106) (.vf 107)) (.fb .mul (.vf 106) (.vf 107)))),
  (330774875, 109, (.tf (.ic .eql we2_11 (.li 2)) (.fb .add (.vf 106) (.vf 107)) (.vf 108))),
  (327340953, 110, (.tf (.ic .eql (.ai 9 0 (.ci (.at 1 1) (.ci (.li 7) .n0))) (.li 0)) (.fb .quo (.vf 106) (.vf 107)) (.vf 109))),
  (533076572, 111, (.tf we2_8 (.tf we2_8 (.fb .quo (.i2f (.ib .sub .i64 (.ai 9 0 (.ci (.ib .quo .i64 (.at 1 1) (.li 11)) (.ci (.li 33) .n0))) (.li 16))) (.lf 4620693217682128896)) (.lf 0)) (.tf (.vb 2) (.vf 110) (.vf 109)))),
  (1881583265, 112, (.tf (.ic .eql we2_13 (.li 0)) we2_2 (.tf (.ic .eql we2_13 (.li 1)) we2_3 (.tf (.ic .eql we2_13 (.li 2)) we2_4 (.tf (.ic .eql we2_13 (.li 3)) we2_5 (.tf (.ic .eql we2_13 (.li 4)) (.vf 105) (.vf 111))))))),
  (3896131511, 113, (.tf (.ic .eql we2_14 (.li 0)) we2_2 (.tf (.ic .eql we2_14 (.li 1)) we2_3 (.tf (.ic .eql we2_14 (.li 2)) we2_4 (.tf (.ic .eql we2_14 (.li 3)) we2_5 (.tf (.ic .eql we2_14 (.li 4)) (.vf 105) (.vf 111))))))),
  (1892159168, 114, (.tf (.ic .eql we2_15 (.li 3)) (.fb .sub (.vf 112) (.vf 113)) (.fb .mul (.vf 112) (.vf 113)))),
  (953310487, 115, (.tf (.ic .eql we2_15 (.li 2)) (.fb .add (.vf 112) (.vf 113)) (.vf 114))),
  (949876565, 116, (.tf (.ic .eql (.ai 9 0 (.ci (.at 1 2) (.ci (.li 7) .n0))) (.li 0)) (.fb .quo (.vf 112) (.vf 113)) (.vf 115))),
  (4142714716, 117, (.tf we2_12 (.tf we2_12 (.fb .quo (.i2f (.ib .sub .i64 (.ai 9 0 (.ci (.ib .quo .i64 (.at 1 2) (.li 11)) (.ci (.li 33) .n0))) (.li 16))) (.lf 4620693217682128896)) (.lf 0)) (.tf (.vb 2) (.vf 116) (.vf 115)))),
  (2035506206, 118, (.tf (.ic .eql we2_17 (.li 0)) we2_2 (.tf (.ic .eql we2_17 (.li 1)) we2_3 (.tf (.ic .eql we2_17 (.li 2)) we2_4 (.tf (.ic .eql we2_17 (.li 3)) we2_5 (.tf (.ic .eql we2_17 (.li 4)) (.vf 105) (.tf (.ic .eql we2_17 (.li 5)) (.vf 111) (.vf 117)))))))),
  (3593970643, 119, (.tf (.ic .eql we2_18 (.li 0)) we2_2 (.tf (.ic .eql we2_18 (.li 1)) we2_3 (.tf (.ic .eql we2_18 (.li 2)) we2_4 (.tf (.ic .eql we2_18 (.li 3)) we2_5 (.tf (.ic .eql we2_18 (.li 4)) (.vf 105) (.tf (.ic .eql we2_18 (.li 5)) (.vf 111) (.vf 117)))))))),
  (2520694798, 120, (.tf (.ic .eql we2_19 (.li 3)) (.fb .sub (.vf 118) (.vf 119)) (.fb .mul (.vf 118) (.vf 119)))),
  (1575846099, 121, (.tf (.ic .eql we2_19 (.li 2)) (.fb .add (.vf 118) (.vf 119)) (.vf 120))),
  (1572412177, 122, (.tf (.ic .eql (.ai 9 0 (.ci (.at 1 3) (.ci (.li 7) .n0))) (.li 0)) (.fb .quo (.vf 118) (.vf 119)) (.vf 121))),
  (3457385569, 123, (.tf we2_16 (.tf we2_16 (.fb .quo (.i2f (.ib .sub .i64 (.ai 9 0 (.ci (.ib .quo .i64 (.at 1 3) (.li 11)) (.ci (.li 33) .n0))) (.li 16))) (.lf 4620693217682128896)) (.lf 0)) (.tf (.vb 2) (.vf 122) (.vf 121)))),
  (4038542454, 124, (.tf (.ic .eql we2_21 (.li 0)) we2_2 (.tf (.ic .eql we2_21 (.li 1)) we2_3 (.tf (.ic .eql we2_21 (.li 2)) we2_4 (.tf (.ic .eql we2_21 (.li 3)) we2_5 (.tf (.ic .eql we2_21 (.li 4)) (.vf 105) (.tf (.ic .eql we2_21 (.li 5)) (.vf 111) (.tf (.ic .eql we2_21 (.li 6)) (.vf 117) (.vf 123))))))))),
  (845955791, 125, (.tf (.ic .eql we2_22 (.li 0)) we2_2 (.tf (.ic .eql we2_22 (.li 1)) we2_3 (.tf (.ic .eql we2_22 (.li 2)) we2_4 (.tf (.ic .eql we2_22 (.li 3)) we2_5 (.tf (.ic .eql we2_22 (.li 4)) (.vf 105) (.tf (.ic .eql we2_22 (.li 5)) (.vf 111) (.tf (.ic .eql we2_22 (.li 6)) (.vf 117) (.vf 123))))))))),
  (3149230428, 126, (.tf (.ic .eql we2_23 (.li 3)) (.fb .sub (.vf 124) (.vf 125)) (.fb .mul (.vf 124) (.vf 125)))),
  (2198381711, 127, (.tf (.ic .eql we2_23 (.li 2)) (.fb .add (.vf 124) (.vf 125)) (.vf 126))),
  (2194947789, 128, (.tf (.ic .eql (.ai 9 0 (.ci (.at 1 4) (.ci (.li 7) .n0))) (.li 0)) (.fb .quo (.vf 124) (.vf 125)) (.vf 127))),
  (2772056422, 129, (.tf we2_20 (.tf we2_20 (.fb .quo (.i2f (.ib .sub .i64 (.ai 9 0 (.ci (.ib .quo .i64 (.at 1 4) (.li 11)) (.ci (.li 33) .n0))) (.li 16))) (.lf 4620693217682128896)) (.lf 0)) (.tf (.vb 2) (.vf 128) (.vf 127)))),
  (3595724718, 130, (.tf (.ic .eql we2_25 (.li 0)) we2_2 (.tf (.ic .eql we2_25 (.li 1)) we2_3 (.tf (.ic .eql we2_25 (.li 2)) we2_4 (.tf (.ic .eql we2_25 (.li 3)) we2_5 (.tf (.ic .eql we2_25 (.li 4)) (.vf 105) (.tf (.ic .eql we2_25 (.li 5)) (.vf 111) (.tf (.ic .eql we2_25 (.li 6)) (.vf 117) (.tf (.ic .eql we2_25 (.li 7)) (.vf 123) (.vf 129)))))))))),
  (4242021537, 131, (.tf (.ic .eql we2_26 (.li 0)) we2_2 (.tf (.ic .eql we2_26 (.li 1)) we2_3 (.tf (.ic .eql we2_26 (.li 2)) we2_4 (.tf (.ic .eql we2_26 (.li 3)) we2_5 (.tf (.ic .eql we2_26 (.li 4)) (.vf 105) (.tf (.ic .eql we2_26 (.li 5)) (.vf 111) (.tf (.ic .eql we2_26 (.li 6)) (.vf 117) (.tf (.ic .eql we2_26 (.li 7)) (.vf 123) (.vf 129)))))))))),
  (3777766058, 132, (.tf (.ic .eql we2_27 (.li 3)) (.fb .sub (.vf 130) (.vf 131)) (.fb .mul (.vf 130) (.vf 131)))),
  (2820917323, 133, (.tf (.ic .eql we2_27 (.li 2)) (.fb .add (.vf 130) (.vf 131)) (.vf 132))),
  (2817483401, 134, (.tf (.ic .eql (.ai 9 0 (.ci (.at 1 5) (.ci (.li 7) .n0))) (.li 0)) (.fb .quo (.vf 130) (.vf 131)) (.vf 133))),
  (2086727275, 135, (.tf we2_24 (.tf we2_24 (.fb .quo (.i2f (.ib .sub .i64 (.ai 9 0 (.ci (.ib .quo .i64 (.at 1 5) (.li 11)) (.ci (.li 33) .n0))) (.li 16))) (.lf 4620693217682128896)) (.lf 0)) (.tf (.vb 2) (.vf 134) (.vf 133)))),
  (707052998, 136, (.tf (.ic .eql we2_29 (.li 0)) we2_2 (.tf (.ic .eql we2_29 (.li 1)) we2_3 (.tf (.ic .eql we2_29 (.li 2)) we2_4 (.tf (.ic .eql we2_29 (.li 3)) we2_5 (.tf (.ic .eql we2_29 (.li 4)) (.vf 105) (.tf (.ic .eql we2_29 (.li 5)) (.vf 111) (.tf (.ic .eql we2_29 (.li 6)) (.vf 117) (.tf (.ic .eql we2_29 (.li 7)) (.vf 123) (.tf (.ic .eql we2_29 (.li 8)) (.vf 129) (.vf 135))))))))))),
  (897266008, 137, (.tf (.ic .eql we2_30 (.li 0)) we2_2 (.tf (.ic .eql we2_30 (.li 1)) we2_3 (.tf (.ic .eql we2_30 (.li 2)) we2_4 (.tf (.ic .eql we2_30 (.li 3)) we2_5 (.tf (.ic .eql we2_30 (.li 4)) (.vf 105) (.tf (.ic .eql we2_30 (.li 5)) (.vf 111) (.tf (.ic .eql we2_30 (.li 6)) (.vf 117) (.tf (.ic .eql we2_30 (.li 7)) (.vf 123) (.tf (.ic .eql we2_30 (.li 8)) (.vf 129) (.vf 135))))))))))),
  (111334397, 138, (.tf (.ic .eql we2_31 (.li 3)) (.fb .sub (.vf 136) (.vf 137)) (.fb .mul (.vf 136) (.vf 137)))),
  (3443452935, 139, (.tf (.ic .eql we2_31 (.li 2)) (.fb .add (.vf 136) (.vf 137)) (.vf 138))),
  (3440019013, 140, (.tf (.ic .eql (.ai 9 0 (.ci (.at 1 6) (.ci (.li 7) .n0))) (.li 0)) (.fb .quo (.vf 136) (.vf 137)) (.vf 139))),
  (1401398128, 141, (.tf we2_28 (.tf we2_28 (.fb .quo (.i2f (.ib .sub .i64 (.ai 9 0 (.ci (.ib .quo .i64 (.at 1 6) (.li 11)) (.ci (.li 33) .n0))) (.li 16))) (.lf 4620693217682128896)) (.lf 0)) (.tf (.vb 2) (.vf 140) (.vf 139)))),
  (3962461876, 142, (.tf (.ic .eql we2_33 (.li 0)) we2_2 (.tf (.ic .eql we2_33 (.li 1)) we2_3 (.tf (.ic .eql we2_33 (.li 2)) we2_4 (.tf (.ic .eql we2_33 (.li 3)) we2_5 (.tf (.ic .eql we2_33 (.li 4)) (.vf 105) (.tf (.ic .eql we2_33 (.li 5)) (.vf 111) (.tf (.ic .eql we2_33 (.li 6)) (.vf 117) (.tf (.ic .eql we2_33 (.li 7)) (.vf 123) (.tf (.ic .eql we2_33 (.li 8)) (.vf 129) (.tf (.ic .eql we2_33 (.li 9)) (.vf 135) (.vf 141)))))))))))),
  (3696591077, 143, (.tf (.ic .eql we2_34 (.li 0)) we2_2 (.tf (.ic .eql we2_34 (.li 1)) we2_3 (.tf (.ic .eql we2_34 (.li 2)) we2_4 (.tf (.ic .eql we2_34 (.li 3)) we2_5 (.tf (.ic .eql we2_34 (.li 4)) (.vf 105) (.tf (.ic .eql we2_34 (.li 5)) (.vf 111) (.tf (.ic .eql we2_34 (.li 6)) (.vf 117) (.tf (.ic .eql we2_34 (.li 7)) (.vf 123) (.tf (.ic .eql we2_34 (.li 8)) (.vf 129) (.tf (.ic .eql we2_34 (.li 9)) (.vf 135) (.vf 141)))))))))))),
  (739870027, 144, (.tf (.ic .eql we2_35 (.li 3)) (.fb .sub (.vf 142) (.vf 143)) (.fb .mul (.vf 142) (.vf 143)))),
  (4065988547, 145, (.tf (.ic .eql we2_35 (.li 2)) (.fb .add (.vf 142) (.vf 143)) (.vf 144))),
  (4062554625, 146, (.tf (.ic .eql (.ai 9 0 (.ci (.at 1 7) (.ci (.li 7) .n0))) (.li 0)) (.fb .quo (.vf 142) (.vf 143)) (.vf 145))),
  (716068981, 147, (.tf we2_32 (.tf we2_32 (.fb .quo (.i2f (.ib .sub .i64 (.ai 9 0 (.ci (.ib .quo .i64 (.at 1 7) (.li 11)) (.ci (.li 33) .n0))) (.li 16))) (.lf 4620693217682128896)) (.lf 0)) (.tf (.vb 2) (.vf 146) (.vf 145)))),
  (2740303449, 148, (.tf (.ic .eql we2_38 (.li 0)) (.vf 135) (.tf (.ic .eql we2_38 (.li 1)) (.vf 141) (.vf 147)))),
  (448340907, 149, (.tf (.ic .eql we2_40 (.li 0)) (.vf 135) (.tf (.ic .eql we2_40 (.li 1)) (.vf 141) (.vf 147)))),
  (2451345656, 150, (.tf (.ic .eql we2_42 (.li 0)) (.vf 135) (.tf (.ic .eql we2_42 (.li 1)) (.vf 141) (.vf 147)))),
  (2322993328, 151, (.tf (.ic .eql we2_43 (.li 0)) (.vf 129) (.tf (.ic .eql we2_43 (.li 1)) (.vf 135) (.vf 141)))),
  (31030786, 152, (.tf (.ic .eql we2_44 (.li 0)) (.vf 129) (.tf (.ic .eql we2_44 (.li 1)) (.vf 135) (.vf 141)))),
  (2034035535, 153, (.tf (.ic .eql we2_45 (.li 0)) (.vf 129) (.tf (.ic .eql we2_45 (.li 1)) (.vf 135) (.vf 141)))),
  (1905683207, 154, (.tf (.ic .eql we2_46 (.li 0)) (.vf 123) (.tf (.ic .eql we2_46 (.li 1)) (.vf 129) (.vf 135)))),
  (3908687956, 155, (.tf (.ic .eql we2_47 (.li 0)) (.vf 123) (.tf (.ic .eql we2_47 (.li 1)) (.vf 129) (.vf 135)))),
  (1616725414, 156, (.tf (.ic .eql we2_48 (.li 0)) (.vf 123) (.tf (.ic .eql we2_48 (.li 1)) (.vf 129) (.vf 135)))),
  (1488373086, 157, (.tf (.ic .eql we2_49 (.li 0)) (.vf 117) (.tf (.ic .eql we2_49 (.li 1)) (.vf 123) (.vf 129)))),
  (3491377835, 158, (.tf (.ic .eql we2_50 (.li 0)) (.vf 117) (.tf (.ic .eql we2_50 (.li 1)) (.vf 123) (.vf 129)))),
  (1199415293, 159, (.tf (.ic .eql we2_51 (.li 0)) (.vf 117) (.tf (.ic .eql we2_51 (.li 1)) (.vf 123) (.vf 129)))),
  (1071062965, 160, (.tf (.ic .eql we2_52 (.li 0)) (.vf 111) (.tf (.ic .eql we2_52 (.li 1)) (.vf 117) (.vf 123)))),
  (3074067714, 161, (.tf (.ic .eql we2_53 (.li 0)) (.vf 111) (.tf (.ic .eql we2_53 (.li 1)) (.vf 117) (.vf 123)))),
  (782105172, 162, (.tf (.ic .eql we2_54 (.li 0)) (.vf 111) (.tf (.ic .eql we2_54 (.li 1)) (.vf 117) (.vf 123)))),
  (653752844, 163, (.tf (.ic .eql we2_55 (.li 0)) (.vf 105) (.tf (.ic .eql we2_55 (.li 1)) (.vf 111) (.vf 117)))),
  (2656757593, 164, (.tf (.ic .eql we2_56 (.li 0)) (.vf 105) (.tf (.ic .eql we2_56 (.li 1)) (.vf 111) (.vf 117)))),
  (364795051, 165, (.tf (.ic .eql we2_57 (.li 0)) (.vf 105) (.tf (.ic .eql we2_57 (.li 1)) (.vf 111) (.vf 117)))),
  (994454768, 166, (.tf (.ic .eql we2_58 (.li 0)) we2_5 (.tf (.ic .eql we2_58 (.li 1)) (.vf 105) (.vf 111)))),
  (2997459517, 167, (.tf (.ic .eql we2_59 (.li 0)) we2_5 (.tf (.ic .eql we2_59 (.li 1)) (.vf 105) (.vf 111)))),
  (705496975, 168, (.tf (.ic .eql we2_60 (.li 0)) we2_5 (.tf (.ic .eql we2_60 (.li 1)) (.vf 105) (.vf 111)))),
  (3187446900, 169, (.tf (.ic .eql we2_61 (.li 0)) we2_4 (.tf (.ic .eql we2_61 (.li 1)) we2_5 (.vf 105)))),
  (895484358, 170, (.tf (.ic .eql we2_62 (.li 0)) we2_4 (.tf (.ic .eql we2_62 (.li 1)) we2_5 (.vf 105)))),
  (2898489107, 171, (.tf (.ic .eql we2_63 (.li 0)) we2_4 (.tf (.ic .eql we2_63 (.li 1)) we2_5 (.vf 105)))),
  (1310748687, 172, (.tf (.ic .eql we2_64 (.li 0)) we2_3 (.tf (.ic .eql we2_64 (.li 1)) we2_4 we2_5))),
  (3313753436, 173, (.tf (.ic .eql we2_65 (.li 0)) we2_3 (.tf (.ic .eql we2_65 (.li 1)) we2_4 we2_5))),
  (1021790894, 174, (.tf (.ic .eql we2_66 (.li 0)) we2_3 (.tf (.ic .eql we2_66 (.li 1)) we2_4 we2_5))),
  (3309498280, 175, (.tf we2_68 we2_2 (.tf we2_69 we2_3 (.tf we2_70 we2_4 (.tf we2_71 we2_5 (.tf we2_72 (.vf 105) (.tf we2_73 (.vf 111) (.tf we2_74 (.vf 117) (.tf we2_75 (.vf 123) (.tf we2_76 (.vf 129) (.tf we2_77 (.vf 135) (.tf we2_78 (.vf 141) (.vf 147))))))))))))),
  (1234585974, 176, (.tf we2_81 we2_2 (.tf we2_82 we2_3 (.tf we2_83 we2_4 (.tf we2_84 we2_5 (.tf we2_85 (.vf 105) (.tf we2_86 (.vf 111) (.tf we2_87 (.vf 117) (.tf we2_88 (.vf 123) (.tf we2_89 (.vf 129) (.tf we2_90 (.vf 135) (.tf we2_91 (.vf 141) (.vf 147))))))))))))),
  (3332271774, 177, (.tf we2_93 we2_2 (.tf we2_94 we2_3 (.tf we2_95 we2_4 (.tf we2_96 we2_5 (.tf we2_97 (.vf 105) (.tf we2_98 (.vf 111) (.tf we2_99 (.vf 117) (.tf we2_100 (.vf 123) (.tf we2_101 (.vf 129) (.tf we2_102 (.vf 135) (.vf 141)))))))))))),
  (3398245719, 178, (.tf we2_104 we2_2 (.tf we2_105 we2_3 (.tf we2_106 we2_4 (.tf we2_107 we2_5 (.tf we2_108 (.vf 105) (.tf we2_109 (.vf 111) (.tf we2_110 (.vf 117) (.tf we2_111 (.vf 123) (.tf we2_112 (.vf 129) (.tf we2_113 (.vf 135) (.vf 141)))))))))))),
  (222684651, 179, (.tf we2_115 we2_2 (.tf we2_116 we2_3 (.tf we2_117 we2_4 (.tf we2_118 we2_5 (.tf we2_119 (.vf 105) (.tf we2_120 (.vf 111) (.tf we2_121 (.vf 117) (.tf we2_122 (.vf 123) (.tf we2_123 (.vf 129) (.vf 135))))))))))),
  (2429544847, 180, (.tf we2_125 we2_2 (.tf we2_126 we2_3 (.tf we2_127 we2_4 (.tf we2_128 we2_5 (.tf we2_129 (.vf 105) (.tf we2_130 (.vf 111) (.tf we2_131 (.vf 117) (.tf we2_132 (.vf 123) (.tf we2_133 (.vf 129) (.vf 135))))))))))),
  (2623450649, 181, (.tf we2_135 we2_2 (.tf we2_136 we2_3 (.tf we2_137 we2_4 (.tf we2_138 we2_5 (.tf we2_139 (.vf 105) (.tf we2_140 (.vf 111) (.tf we2_141 (.vf 117) (.tf we2_142 (.vf 123) (.vf 129)))))))))),
  (2815152930, 182, (.fb .mul we2_3 (.vf 181))),
  (1786297718, 183, (.tf we2_144 we2_2 (.tf we2_145 we2_3 (.tf we2_146 we2_4 (.tf we2_147 we2_5 (.tf we2_148 (.vf 105) (.tf we2_149 (.vf 111) (.tf we2_150 (.vf 117) (.vf 123))))))))),
  (3979963125, 184, (.tf we2_152 we2_2 (.tf we2_153 we2_3 (.tf we2_154 we2_4 (.tf we2_155 we2_5 (.tf we2_156 (.vf 105) (.tf we2_157 (.vf 111) (.tf we2_158 (.vf 117) (.vf 123))))))))),
  (2164530617, 185, (.tf we2_160 we2_2 (.tf we2_161 we2_3 (.tf we2_162 we2_4 (.tf we2_163 we2_5 (.tf we2_164 (.vf 105) (.tf we2_165 (.vf 111) (.vf 117)))))))),
  (2204114984, 186, (.tf we2_167 we2_2 (.tf we2_168 we2_3 (.tf we2_169 we2_4 (.tf we2_170 we2_5 (.tf we2_171 (.vf 105) (.tf we2_172 (.vf 111) (.vf 117)))))))),
  (3705370190, 187, (.tf we2_174 we2_2 (.tf we2_175 we2_3 (.tf we2_176 we2_4 (.tf we2_177 we2_5 (.tf we2_178 (.vf 105) (.vf 111))))))),
  (1590873517, 188, (.tf we2_180 we2_2 (.tf we2_181 we2_3 (.tf we2_182 we2_4 (.tf we2_183 we2_5 (.tf we2_184 (.vf 105) (.vf 111))))))),
  (2113849146, 189, (.tf we2_186 we2_2 (.tf we2_187 we2_3 (.tf we2_188 we2_4 (.tf we2_189 we2_5 (.vf 105)))))),
  (2140238724, 190, (.tf we2_191 we2_2 (.tf we2_192 we2_3 (.tf we2_193 we2_4 (.tf we2_194 we2_5 (.vf 105)))))),
  (2315907449, 191, (.tf (.ic .eql we2_195 (.li 0)) we2_2 (.tf (.ic .eql we2_195 (.li 1)) we2_3 (.tf (.ic .eql we2_195 (.li 2)) we2_4 we2_5)))),
  (188215987, 192, (.tf (.ic .eql we2_196 (.li 0)) we2_2 (.tf (.ic .eql we2_196 (.li 1)) we2_3 (.tf (.ic .eql we2_196 (.li 2)) we2_4 we2_5)))),
  (850910673, 193, (.tf we2_198 we2_2 (.tf we2_199 we2_3 (.tf we2_200 we2_4 (.tf we2_201 we2_5 (.tf we2_202 (.vf 105) (.tf we2_203 (.vf 111) (.tf we2_204 (.vf 117) (.tf we2_205 (.vf 123) (.tf we2_206 (.vf 129) (.tf we2_207 (.vf 135) (.tf we2_208 (.vf 141) (.tf we2_209 (.vf 147) we2_210))))))))))))),
  (930079407, 194, (.tf we2_212 we2_2 (.tf we2_213 we2_3 (.tf we2_214 we2_4 (.tf we2_215 we2_5 (.tf we2_216 (.vf 105) (.tf we2_217 (.vf 111) (.tf we2_218 (.vf 117) (.tf we2_219 (.vf 123) (.tf we2_220 (.vf 129) (.tf we2_221 (.vf 135) (.tf we2_222 (.vf 141) (.tf we2_223 (.vf 147) we2_210))))))))))))),
  (4008044798, 195, (.tf we2_68 we2_2 (.tf we2_69 we2_3 (.tf we2_70 we2_4 (.tf we2_71 we2_5 (.tf we2_72 (.vf 105) (.tf we2_73 (.vf 111) (.tf we2_74 (.vf 117) (.tf we2_75 (.vf 123) (.tf we2_76 (.vf 129) (.tf we2_77 (.vf 135) (.tf we2_78 (.vf 141) we2_224)))))))))))),
  (1933132492, 196, (.tf we2_81 we2_2 (.tf we2_82 we2_3 (.tf we2_83 we2_4 (.tf we2_84 we2_5 (.tf we2_85 (.vf 105) (.tf we2_86 (.vf 111) (.tf we2_87 (.vf 117) (.tf we2_88 (.vf 123) (.tf we2_89 (.vf 129) (.tf we2_90 (.vf 135) (.tf we2_91 (.vf 141) we2_224)))))))))))),
  (4032818306, 197, (.tf we2_93 we2_2 (.tf we2_94 we2_3 (.tf we2_95 we2_4 (.tf we2_96 we2_5 (.tf we2_97 (.vf 105) (.tf we2_98 (.vf 111) (.tf we2_99 (.vf 117) (.tf we2_100 (.vf 123) (.tf we2_101 (.vf 129) (.tf we2_102 (.vf 135) we2_225))))))))))),
  (4098792251, 198, (.tf we2_104 we2_2 (.tf we2_105 we2_3 (.tf we2_106 we2_4 (.tf we2_107 we2_5 (.tf we2_108 (.vf 105) (.tf we2_109 (.vf 111) (.tf we2_110 (.vf 117) (.tf we2_111 (.vf 123) (.tf we2_112 (.vf 129) (.tf we2_113 (.vf 135) we2_225))))))))))),
  (3226848675, 199, (.fb .mul we2_4 (.vf 181))),
  (222684715, 200, (.tf we2_115 we2_2 (.tf we2_116 we2_3 (.tf we2_117 we2_4 (.tf we2_118 we2_5 (.tf we2_119 (.vf 105) (.tf we2_120 (.vf 111) (.tf we2_121 (.vf 117) (.tf we2_122 (.vf 123) (.tf we2_123 (.vf 129) (.vf 199))))))))))),
  (2429544911, 201, (.tf we2_125 we2_2 (.tf we2_126 we2_3 (.tf we2_127 we2_4 (.tf we2_128 we2_5 (.tf we2_129 (.vf 105) (.tf we2_130 (.vf 111) (.tf we2_131 (.vf 117) (.tf we2_132 (.vf 123) (.tf we2_133 (.vf 129) (.vf 199))))))))))),
  (3327997209, 202, (.tf we2_135 we2_2 (.tf we2_136 we2_3 (.tf we2_137 we2_4 (.tf we2_138 we2_5 (.tf we2_139 (.vf 105) (.tf we2_140 (.vf 111) (.tf we2_141 (.vf 117) (.tf we2_142 (.vf 123) we2_226))))))))),
  (3226848696, 203, (.fb .mul we2_4 (.vf 202))),
  (2492844292, 204, (.tf we2_144 we2_2 (.tf we2_145 we2_3 (.tf we2_146 we2_4 (.tf we2_147 we2_5 (.tf we2_148 (.vf 105) (.tf we2_149 (.vf 111) (.tf we2_150 (.vf 117) we2_227)))))))),
  (391542408, 205, (.tf we2_152 we2_2 (.tf we2_153 we2_3 (.tf we2_154 we2_4 (.tf we2_155 we2_5 (.tf we2_156 (.vf 105) (.tf we2_157 (.vf 111) (.tf we2_158 (.vf 117) we2_227)))))))),
  (2873077205, 206, (.tf we2_160 we2_2 (.tf we2_161 we2_3 (.tf we2_162 we2_4 (.tf we2_163 we2_5 (.tf we2_164 (.vf 105) (.tf we2_165 (.vf 111) we2_228))))))),
  (2912661572, 207, (.tf we2_167 we2_2 (.tf we2_168 we2_3 (.tf we2_169 we2_4 (.tf we2_170 we2_5 (.tf we2_171 (.vf 105) (.tf we2_172 (.vf 111) we2_228))))))),
  (120949501, 208, (.tf we2_174 we2_2 (.tf we2_175 we2_3 (.tf we2_176 we2_4 (.tf we2_177 we2_5 (.tf we2_178 (.vf 105) we2_229)))))),
  (2301420119, 209, (.tf we2_180 we2_2 (.tf we2_181 we2_3 (.tf we2_182 we2_4 (.tf we2_183 we2_5 (.tf we2_184 (.vf 105) we2_229)))))),
  (2826395762, 210, (.tf we2_186 we2_2 (.tf we2_187 we2_3 (.tf we2_188 we2_4 (.tf we2_189 we2_5 we2_230))))),
  (2852785340, 211, (.tf we2_191 we2_2 (.tf we2_192 we2_3 (.tf we2_193 we2_4 (.tf we2_194 we2_5 we2_230))))),
  (2559670307, 212, (.tf we2_232 we2_2 (.tf we2_233 we2_3 (.tf we2_234 we2_4 (.tf we2_235 we2_5 (.tf we2_236 (.vf 105) (.tf we2_237 (.vf 111) (.tf we2_238 (.vf 117) (.tf we2_239 (.vf 123) (.tf we2_240 (.vf 129) (.tf we2_241 (.vf 135) (.tf we2_242 (.vf 141) (.tf we2_243 (.vf 147) (.tf we2_244 we2_210 we2_245)))))))))))))),
  (497952790, 213, (.tf we2_247 we2_2 (.tf we2_248 we2_3 (.tf we2_249 we2_4 (.tf we2_250 we2_5 (.tf we2_251 (.vf 105) (.tf we2_252 (.vf 111) (.tf we2_253 (.vf 117) (.tf we2_254 (.vf 123) (.tf we2_255 (.vf 129) (.tf we2_256 (.vf 135) (.tf we2_257 (.vf 141) (.tf we2_258 (.vf 147) (.tf we2_259 we2_210 we2_245)))))))))))))),
  (3119440194, 214, (.tf we2_198 we2_2 (.tf we2_199 we2_3 (.tf we2_200 we2_4 (.tf we2_201 we2_5 (.tf we2_202 (.vf 105) (.tf we2_203 (.vf 111) (.tf we2_204 (.vf 117) (.tf we2_205 (.vf 123) (.tf we2_206 (.vf 129) (.tf we2_207 (.vf 135) (.tf we2_208 (.vf 141) (.tf we2_209 we2_224 we2_260))))))))))))),
  (3198608928, 215, (.tf we2_212 we2_2 (.tf we2_213 we2_3 (.tf we2_214 we2_4 (.tf we2_215 we2_5 (.tf we2_216 (.vf 105) (.tf we2_217 (.vf 111) (.tf we2_218 (.vf 117) (.tf we2_219 (.vf 123) (.tf we2_220 (.vf 129) (.tf we2_221 (.vf 135) (.tf we2_222 (.vf 141) (.tf we2_223 we2_224 we2_260))))))))))))),
  (546849464, 216, (.tf we2_68 we2_2 (.tf we2_69 we2_3 (.tf we2_70 we2_4 (.tf we2_71 we2_5 (.tf we2_72 (.vf 105) (.tf we2_73 (.vf 111) (.tf we2_74 (.vf 117) (.tf we2_75 (.vf 123) (.tf we2_76 (.vf 129) (.tf we2_77 (.vf 135) (.tf we2_78 we2_225 we2_261)))))))))))),
  (2766904449, 217, (.tf we2_81 we2_2 (.tf we2_82 we2_3 (.tf we2_83 we2_4 (.tf we2_84 we2_5 (.tf we2_85 (.vf 105) (.tf we2_86 (.vf 111) (.tf we2_87 (.vf 117) (.tf we2_88 (.vf 123) (.tf we2_89 (.vf 129) (.tf we2_90 (.vf 135) (.tf we2_91 we2_225 we2_261)))))))))))),
  (1380558485, 218, (.fb .mul we2_5 (.vf 181))),
  (222684734, 219, (.tf we2_115 we2_2 (.tf we2_116 we2_3 (.tf we2_117 we2_4 (.tf we2_118 we2_5 (.tf we2_119 (.vf 105) (.tf we2_120 (.vf 111) (.tf we2_121 (.vf 117) (.tf we2_122 (.vf 123) (.tf we2_123 (.vf 129) (.vf 218))))))))))),
  (2429544930, 220, (.tf we2_125 we2_2 (.tf we2_126 we2_3 (.tf we2_127 we2_4 (.tf we2_128 we2_5 (.tf we2_129 (.vf 105) (.tf we2_130 (.vf 111) (.tf we2_131 (.vf 117) (.tf we2_132 (.vf 123) (.tf we2_133 (.vf 129) (.vf 218))))))))))),
  (4155818715, 221, (.tf we2_93 we2_2 (.tf we2_94 we2_3 (.tf we2_95 we2_4 (.tf we2_96 we2_5 (.tf we2_97 (.vf 105) (.tf we2_98 (.vf 111) (.tf we2_99 (.vf 117) (.tf we2_100 (.vf 123) (.tf we2_101 (.vf 129) (.tf we2_102 (.vf 218) we2_262))))))))))),
  (4221792660, 222, (.tf we2_104 we2_2 (.tf we2_105 we2_3 (.tf we2_106 we2_4 (.tf we2_107 we2_5 (.tf we2_108 (.vf 105) (.tf we2_109 (.vf 111) (.tf we2_110 (.vf 117) (.tf we2_111 (.vf 123) (.tf we2_112 (.vf 129) (.tf we2_113 (.vf 218) we2_262))))))))))),
  (1380558506, 223, (.fb .mul we2_5 (.vf 202))),
  (2461908779, 224, (.tf we2_115 we2_2 (.tf we2_116 we2_3 (.tf we2_117 we2_4 (.tf we2_118 we2_5 (.tf we2_119 (.vf 105) (.tf we2_120 (.vf 111) (.tf we2_121 (.vf 117) (.tf we2_122 (.vf 123) (.tf we2_123 we2_226 (.vf 223))))))))))),
  (373801684, 225, (.tf we2_125 we2_2 (.tf we2_126 we2_3 (.tf we2_127 we2_4 (.tf we2_128 we2_5 (.tf we2_129 (.vf 105) (.tf we2_130 (.vf 111) (.tf we2_131 (.vf 117) (.tf we2_132 (.vf 123) (.tf we2_133 we2_226 (.vf 223))))))))))),
  (4153463769, 226, (.tf we2_135 we2_2 (.tf we2_136 we2_3 (.tf we2_137 we2_4 (.tf we2_138 we2_5 (.tf we2_139 (.vf 105) (.tf we2_140 (.vf 111) (.tf we2_141 (.vf 117) (.tf we2_142 we2_227 we2_263))))))))),
  (1380558530, 227, (.fb .mul we2_5 (.vf 226))),
  (1883553288, 228, (.tf we2_144 we2_2 (.tf we2_145 we2_3 (.tf we2_146 we2_4 (.tf we2_147 we2_5 (.tf we2_148 (.vf 105) (.tf we2_149 (.vf 111) (.tf we2_150 we2_228 we2_264)))))))),
  (4077218695, 229, (.tf we2_152 we2_2 (.tf we2_153 we2_3 (.tf we2_154 we2_4 (.tf we2_155 we2_5 (.tf we2_156 (.vf 105) (.tf we2_157 (.vf 111) (.tf we2_158 we2_228 we2_264)))))))),
  (829028637, 230, (.tf we2_160 we2_2 (.tf we2_161 we2_3 (.tf we2_162 we2_4 (.tf we2_163 we2_5 (.tf we2_164 (.vf 105) (.tf we2_165 we2_229 we2_265))))))),
  (868613004, 231, (.tf we2_167 we2_2 (.tf we2_168 we2_3 (.tf we2_169 we2_4 (.tf we2_170 we2_5 (.tf we2_171 (.vf 105) (.tf we2_172 we2_229 we2_265))))))),
  (937110660, 232, (.tf we2_174 we2_2 (.tf we2_175 we2_3 (.tf we2_176 we2_4 (.tf we2_177 we2_5 (.tf we2_178 we2_230 we2_266)))))),
  (3117581278, 233, (.tf we2_180 we2_2 (.tf we2_181 we2_3 (.tf we2_182 we2_4 (.tf we2_183 we2_5 (.tf we2_184 we2_230 we2_266)))))),
  (1049152945, 234, (.tf we2_268 we2_2 (.tf we2_269 we2_3 (.tf we2_270 we2_4 (.tf we2_271 we2_5 (.tf we2_272 (.vf 105) (.tf we2_273 (.vf 111) (.tf we2_274 (.vf 117) (.tf we2_275 (.vf 123) (.tf we2_276 (.vf 129) (.tf we2_277 (.vf 135) (.tf we2_278 (.vf 141) (.tf we2_279 (.vf 147) (.tf we2_280 we2_210 (.tf we2_281 we2_245 we2_282))))))))))))))),
  (1141516468, 235, (.tf we2_284 we2_2 (.tf we2_285 we2_3 (.tf we2_286 we2_4 (.tf we2_287 we2_5 (.tf we2_288 (.vf 105) (.tf we2_289 (.vf 111) (.tf we2_290 (.vf 117) (.tf we2_291 (.vf 123) (.tf we2_292 (.vf 129) (.tf we2_293 (.vf 135) (.tf we2_294 (.vf 141) (.tf we2_295 (.vf 147) (.tf we2_296 we2_210 (.tf we2_297 we2_245 we2_282))))))))))))))),
  (3306525885, 236, (.tf we2_232 we2_2 (.tf we2_233 we2_3 (.tf we2_234 we2_4 (.tf we2_235 we2_5 (.tf we2_236 (.vf 105) (.tf we2_237 (.vf 111) (.tf we2_238 (.vf 117) (.tf we2_239 (.vf 123) (.tf we2_240 (.vf 129) (.tf we2_241 (.vf 135) (.tf we2_242 (.vf 141) (.tf we2_243 we2_224 (.tf we2_244 we2_260 we2_298)))))))))))))),
  (1244808368, 237, (.tf we2_247 we2_2 (.tf we2_248 we2_3 (.tf we2_249 we2_4 (.tf we2_250 we2_5 (.tf we2_251 (.vf 105) (.tf we2_252 (.vf 111) (.tf we2_253 (.vf 117) (.tf we2_254 (.vf 123) (.tf we2_255 (.vf 129) (.tf we2_256 (.vf 135) (.tf we2_257 (.vf 141) (.tf we2_258 we2_224 (.tf we2_259 we2_260 we2_298)))))))))))))),
  (2431538208, 238, (.tf we2_198 we2_2 (.tf we2_199 we2_3 (.tf we2_200 we2_4 (.tf we2_201 we2_5 (.tf we2_202 (.vf 105) (.tf we2_203 (.vf 111) (.tf we2_204 (.vf 117) (.tf we2_205 (.vf 123) (.tf we2_206 (.vf 129) (.tf we2_207 (.vf 135) (.tf we2_208 we2_225 (.tf we2_209 we2_261 we2_299))))))))))))),
  (2510706942, 239, (.tf we2_212 we2_2 (.tf we2_213 we2_3 (.tf we2_214 we2_4 (.tf we2_215 we2_5 (.tf we2_216 (.vf 105) (.tf we2_217 (.vf 111) (.tf we2_218 (.vf 117) (.tf we2_219 (.vf 123) (.tf we2_220 (.vf 129) (.tf we2_221 (.vf 135) (.tf we2_222 we2_225 (.tf we2_223 we2_261 we2_299))))))))))))),
  (849230968, 240, (.tf we2_115 we2_2 (.tf we2_116 we2_3 (.tf we2_117 we2_4 (.tf we2_118 we2_5 (.tf we2_119 (.vf 105) (.tf we2_120 (.vf 111) (.tf we2_121 (.vf 117) (.tf we2_122 (.vf 123) (.tf we2_123 (.vf 129) we2_300)))))))))),
  (3056091164, 241, (.tf we2_125 we2_2 (.tf we2_126 we2_3 (.tf we2_127 we2_4 (.tf we2_128 we2_5 (.tf we2_129 (.vf 105) (.tf we2_130 (.vf 111) (.tf we2_131 (.vf 117) (.tf we2_132 (.vf 123) (.tf we2_133 (.vf 129) we2_300)))))))))),
  (2462046421, 242, (.tf we2_93 we2_2 (.tf we2_94 we2_3 (.tf we2_95 we2_4 (.tf we2_96 we2_5 (.tf we2_97 (.vf 105) (.tf we2_98 (.vf 111) (.tf we2_99 (.vf 117) (.tf we2_100 (.vf 123) (.tf we2_101 (.vf 129) (.tf we2_102 we2_300 we2_301))))))))))),
  (2528020366, 243, (.tf we2_104 we2_2 (.tf we2_105 we2_3 (.tf we2_106 we2_4 (.tf we2_107 we2_5 (.tf we2_108 (.vf 105) (.tf we2_109 (.vf 111) (.tf we2_110 (.vf 117) (.tf we2_111 (.vf 123) (.tf we2_112 (.vf 129) (.tf we2_113 we2_300 we2_301))))))))))),
  (2261611465, 244, (.tf we2_68 we2_2 (.tf we2_69 we2_3 (.tf we2_70 we2_4 (.tf we2_71 we2_5 (.tf we2_72 (.vf 105) (.tf we2_73 (.vf 111) (.tf we2_74 (.vf 117) (.tf we2_75 (.vf 123) (.tf we2_76 (.vf 129) (.tf we2_77 we2_300 (.tf we2_78 we2_301 we2_302)))))))))))),
  (186699159, 245, (.tf we2_81 we2_2 (.tf we2_82 we2_3 (.tf we2_83 we2_4 (.tf we2_84 we2_5 (.tf we2_85 (.vf 105) (.tf we2_86 (.vf 111) (.tf we2_87 (.vf 117) (.tf we2_88 (.vf 123) (.tf we2_89 (.vf 129) (.tf we2_90 we2_300 (.tf we2_91 we2_301 we2_302)))))))))))),
  (3088455029, 246, (.tf we2_115 we2_2 (.tf we2_116 we2_3 (.tf we2_117 we2_4 (.tf we2_118 we2_5 (.tf we2_119 (.vf 105) (.tf we2_120 (.vf 111) (.tf we2_121 (.vf 117) (.tf we2_122 (.vf 123) (.tf we2_123 we2_226 we2_303)))))))))),
  (1000347934, 247, (.tf we2_125 we2_2 (.tf we2_126 we2_3 (.tf we2_127 we2_4 (.tf we2_128 we2_5 (.tf we2_129 (.vf 105) (.tf we2_130 (.vf 111) (.tf we2_131 (.vf 117) (.tf we2_132 (.vf 123) (.tf we2_133 we2_226 we2_303)))))))))),
  (433303257, 248, (.tf we2_93 we2_2 (.tf we2_94 we2_3 (.tf we2_95 we2_4 (.tf we2_96 we2_5 (.tf we2_97 (.vf 105) (.tf we2_98 (.vf 111) (.tf we2_99 (.vf 117) (.tf we2_100 (.vf 123) (.tf we2_101 we2_226 (.tf we2_102 we2_303 we2_304))))))))))),
  (499277202, 249, (.tf we2_104 we2_2 (.tf we2_105 we2_3 (.tf we2_106 we2_4 (.tf we2_107 we2_5 (.tf we2_108 (.vf 105) (.tf we2_109 (.vf 111) (.tf we2_110 (.vf 117) (.tf we2_111 (.vf 123) (.tf we2_112 we2_226 (.tf we2_113 we2_303 we2_304))))))))))),
  (1649868791, 250, (.tf we2_115 we2_2 (.tf we2_116 we2_3 (.tf we2_117 we2_4 (.tf we2_118 we2_5 (.tf we2_119 (.vf 105) (.tf we2_120 (.vf 111) (.tf we2_121 (.vf 117) (.tf we2_122 we2_227 (.tf we2_123 we2_263 we2_305)))))))))),
  (3856728987, 251, (.tf we2_125 we2_2 (.tf we2_126 we2_3 (.tf we2_127 we2_4 (.tf we2_128 we2_5 (.tf we2_129 (.vf 105) (.tf we2_130 (.vf 111) (.tf we2_131 (.vf 117) (.tf we2_132 we2_227 (.tf we2_133 we2_263 we2_305)))))))))),
  (1304120039, 252, (.tf we2_135 we2_2 (.tf we2_136 we2_3 (.tf we2_137 we2_4 (.tf we2_138 we2_5 (.tf we2_139 (.vf 105) (.tf we2_140 (.vf 111) (.tf we2_141 we2_228 (.tf we2_142 we2_264 we2_306))))))))),
  (1894419285, 253, (.tf we2_144 we2_2 (.tf we2_145 we2_3 (.tf we2_146 we2_4 (.tf we2_147 we2_5 (.tf we2_148 (.vf 105) (.tf we2_149 we2_229 (.tf we2_150 we2_265 we2_307)))))))),
  (4088084692, 254, (.tf we2_152 we2_2 (.tf we2_153 we2_3 (.tf we2_154 we2_4 (.tf we2_155 we2_5 (.tf we2_156 (.vf 105) (.tf we2_157 we2_229 (.tf we2_158 we2_265 we2_307)))))))),
  (3700104361, 255, (.tf we2_160 we2_2 (.tf we2_161 we2_3 (.tf we2_162 we2_4 (.tf we2_163 we2_5 (.tf we2_164 we2_230 (.tf we2_165 we2_266 we2_308))))))),
  (3739688728, 256, (.tf we2_167 we2_2 (.tf we2_168 we2_3 (.tf we2_169 we2_4 (.tf we2_170 we2_5 (.tf we2_171 we2_230 (.tf we2_172 we2_266 we2_308))))))),
  (4190914386, 257, (.tf we2_310 we2_2 (.tf we2_311 we2_3 (.tf we2_312 we2_4 (.tf we2_313 we2_5 (.tf we2_314 (.vf 105) (.tf we2_315 (.vf 111) (.tf we2_316 (.vf 117) (.tf we2_317 (.vf 123) (.tf we2_318 (.vf 129) (.tf we2_319 (.vf 135) (.tf we2_320 (.vf 141) (.tf we2_321 (.vf 147) (.tf we2_322 we2_210 (.tf we2_323 we2_245 (.tf we2_324 we2_282 we2_325)))))))))))))))),
  (2142391658, 258, (.tf we2_327 we2_2 (.tf we2_328 we2_3 (.tf we2_329 we2_4 (.tf we2_330 we2_5 (.tf we2_331 (.vf 105) (.tf we2_332 (.vf 111) (.tf we2_333 (.vf 117) (.tf we2_334 (.vf 123) (.tf we2_335 (.vf 129) (.tf we2_336 (.vf 135) (.tf we2_337 (.vf 141) (.tf we2_338 (.vf 147) (.tf we2_339 we2_210 (.tf we2_340 we2_245 (.tf we2_341 we2_282 we2_325)))))))))))))))),
  (3850923088, 259, (.tf we2_268 we2_2 (.tf we2_269 we2_3 (.tf we2_270 we2_4 (.tf we2_271 we2_5 (.tf we2_272 (.vf 105) (.tf we2_273 (.vf 111) (.tf we2_274 (.vf 117) (.tf we2_275 (.vf 123) (.tf we2_276 (.vf 129) (.tf we2_277 (.vf 135) (.tf we2_278 (.vf 141) (.tf we2_279 we2_224 (.tf we2_280 we2_260 (.tf we2_281 we2_298 we2_342))))))))))))))),
  (3943286611, 260, (.tf we2_284 we2_2 (.tf we2_285 we2_3 (.tf we2_286 we2_4 (.tf we2_287 we2_5 (.tf we2_288 (.vf 105) (.tf we2_289 (.vf 111) (.tf we2_290 (.vf 117) (.tf we2_291 (.vf 123) (.tf we2_292 (.vf 129) (.tf we2_293 (.vf 135) (.tf we2_294 (.vf 141) (.tf we2_295 we2_224 (.tf we2_296 we2_260 (.tf we2_297 we2_298 we2_342))))))))))))))),
  (378571173, 261, (.tf we2_232 we2_2 (.tf we2_233 we2_3 (.tf we2_234 we2_4 (.tf we2_235 we2_5 (.tf we2_236 (.vf 105) (.tf we2_237 (.vf 111) (.tf we2_238 (.vf 117) (.tf we2_239 (.vf 123) (.tf we2_240 (.vf 129) (.tf we2_241 (.vf 135) (.tf we2_242 we2_225 (.tf we2_243 we2_261 (.tf we2_244 we2_299 we2_343)))))))))))))),
  (2611820947, 262, (.tf we2_247 we2_2 (.tf we2_248 we2_3 (.tf we2_249 we2_4 (.tf we2_250 we2_5 (.tf we2_251 (.vf 105) (.tf we2_252 (.vf 111) (.tf we2_253 (.vf 117) (.tf we2_254 (.vf 123) (.tf we2_255 (.vf 129) (.tf we2_256 (.vf 135) (.tf we2_257 we2_225 (.tf we2_258 we2_261 (.tf we2_259 we2_299 we2_343)))))))))))))),
  (855230986, 263, (.tf we2_115 we2_2 (.tf we2_116 we2_3 (.tf we2_117 we2_4 (.tf we2_118 we2_5 (.tf we2_119 (.vf 105) (.tf we2_120 (.vf 111) (.tf we2_121 (.vf 117) (.tf we2_122 (.vf 123) (.tf we2_123 (.vf 129) we2_344)))))))))),
  (3062091182, 264, (.tf we2_125 we2_2 (.tf we2_126 we2_3 (.tf we2_127 we2_4 (.tf we2_128 we2_5 (.tf we2_129 (.vf 105) (.tf we2_130 (.vf 111) (.tf we2_131 (.vf 117) (.tf we2_132 (.vf 123) (.tf we2_133 (.vf 129) we2_344)))))))))),
  (2451741040, 265, (.tf we2_93 we2_2 (.tf we2_94 we2_3 (.tf we2_95 we2_4 (.tf we2_96 we2_5 (.tf we2_97 (.vf 105) (.tf we2_98 (.vf 111) (.tf we2_99 (.vf 117) (.tf we2_100 (.vf 123) (.tf we2_101 (.vf 129) (.tf we2_102 we2_344 we2_345))))))))))),
  (2517714985, 266, (.tf we2_104 we2_2 (.tf we2_105 we2_3 (.tf we2_106 we2_4 (.tf we2_107 we2_5 (.tf we2_108 (.vf 105) (.tf we2_109 (.vf 111) (.tf we2_110 (.vf 117) (.tf we2_111 (.vf 123) (.tf we2_112 (.vf 129) (.tf we2_113 we2_344 we2_345))))))))))),
  (2862463055, 267, (.tf we2_68 we2_2 (.tf we2_69 we2_3 (.tf we2_70 we2_4 (.tf we2_71 we2_5 (.tf we2_72 (.vf 105) (.tf we2_73 (.vf 111) (.tf we2_74 (.vf 117) (.tf we2_75 (.vf 123) (.tf we2_76 (.vf 129) (.tf we2_77 we2_344 (.tf we2_78 we2_345 we2_346)))))))))))),
  (787550749, 268, (.tf we2_81 we2_2 (.tf we2_82 we2_3 (.tf we2_83 we2_4 (.tf we2_84 we2_5 (.tf we2_85 (.vf 105) (.tf we2_86 (.vf 111) (.tf we2_87 (.vf 117) (.tf we2_88 (.vf 123) (.tf we2_89 (.vf 129) (.tf we2_90 we2_344 (.tf we2_91 we2_345 we2_346)))))))))))),
  (2989034144, 269, (.tf we2_198 we2_2 (.tf we2_199 we2_3 (.tf we2_200 we2_4 (.tf we2_201 we2_5 (.tf we2_202 (.vf 105) (.tf we2_203 (.vf 111) (.tf we2_204 (.vf 117) (.tf we2_205 (.vf 123) (.tf we2_206 (.vf 129) (.tf we2_207 we2_344 (.tf we2_208 we2_345 (.tf we2_209 we2_346 we2_347))))))))))))),
  (3068202878, 270, (.tf we2_212 we2_2 (.tf we2_213 we2_3 (.tf we2_214 we2_4 (.tf we2_215 we2_5 (.tf we2_216 (.vf 105) (.tf we2_217 (.vf 111) (.tf we2_218 (.vf 117) (.tf we2_219 (.vf 123) (.tf we2_220 (.vf 129) (.tf we2_221 we2_344 (.tf we2_222 we2_345 (.tf we2_223 we2_346 we2_347))))))))))))),
  (3094455047, 271, (.tf we2_115 we2_2 (.tf we2_116 we2_3 (.tf we2_117 we2_4 (.tf we2_118 we2_5 (.tf we2_119 (.vf 105) (.tf we2_120 (.vf 111) (.tf we2_121 (.vf 117) (.tf we2_122 (.vf 123) (.tf we2_123 we2_226 we2_348)))))))))),
  (1006347952, 272, (.tf we2_125 we2_2 (.tf we2_126 we2_3 (.tf we2_127 we2_4 (.tf we2_128 we2_5 (.tf we2_129 (.vf 105) (.tf we2_130 (.vf 111) (.tf we2_131 (.vf 117) (.tf we2_132 (.vf 123) (.tf we2_133 we2_226 we2_348)))))))))),
  (424997884, 273, (.tf we2_93 we2_2 (.tf we2_94 we2_3 (.tf we2_95 we2_4 (.tf we2_96 we2_5 (.tf we2_97 (.vf 105) (.tf we2_98 (.vf 111) (.tf we2_99 (.vf 117) (.tf we2_100 (.vf 123) (.tf we2_101 we2_226 (.tf we2_102 we2_348 we2_349))))))))))),
  (490971829, 274, (.tf we2_104 we2_2 (.tf we2_105 we2_3 (.tf we2_106 we2_4 (.tf we2_107 we2_5 (.tf we2_108 (.vf 105) (.tf we2_109 (.vf 111) (.tf we2_110 (.vf 117) (.tf we2_111 (.vf 123) (.tf we2_112 we2_226 (.tf we2_113 we2_348 we2_349))))))))))),
  (3662624153, 275, (.tf we2_68 we2_2 (.tf we2_69 we2_3 (.tf we2_70 we2_4 (.tf we2_71 we2_5 (.tf we2_72 (.vf 105) (.tf we2_73 (.vf 111) (.tf we2_74 (.vf 117) (.tf we2_75 (.vf 123) (.tf we2_76 we2_226 (.tf we2_77 we2_348 (.tf we2_78 we2_349 we2_350)))))))))))),
  (1587711847, 276, (.tf we2_81 we2_2 (.tf we2_82 we2_3 (.tf we2_83 we2_4 (.tf we2_84 we2_5 (.tf we2_85 (.vf 105) (.tf we2_86 (.vf 111) (.tf we2_87 (.vf 117) (.tf we2_88 (.vf 123) (.tf we2_89 we2_226 (.tf we2_90 we2_348 (.tf we2_91 we2_349 we2_350)))))))))))),
  (1655868809, 277, (.tf we2_115 we2_2 (.tf we2_116 we2_3 (.tf we2_117 we2_4 (.tf we2_118 we2_5 (.tf we2_119 (.vf 105) (.tf we2_120 (.vf 111) (.tf we2_121 (.vf 117) (.tf we2_122 we2_227 (.tf we2_123 we2_263 we2_351)))))))))),
  (3862729005, 278, (.tf we2_125 we2_2 (.tf we2_126 we2_3 (.tf we2_127 we2_4 (.tf we2_128 we2_5 (.tf we2_129 (.vf 105) (.tf we2_130 (.vf 111) (.tf we2_131 (.vf 117) (.tf we2_132 we2_227 (.tf we2_133 we2_263 we2_351)))))))))),
  (3311379009, 279, (.tf we2_93 we2_2 (.tf we2_94 we2_3 (.tf we2_95 we2_4 (.tf we2_96 we2_5 (.tf we2_97 (.vf 105) (.tf we2_98 (.vf 111) (.tf we2_99 (.vf 117) (.tf we2_100 we2_227 (.tf we2_101 we2_263 (.tf we2_102 we2_351 we2_352))))))))))),
  (3377352954, 280, (.tf we2_104 we2_2 (.tf we2_105 we2_3 (.tf we2_106 we2_4 (.tf we2_107 we2_5 (.tf we2_108 (.vf 105) (.tf we2_109 (.vf 111) (.tf we2_110 (.vf 117) (.tf we2_111 we2_227 (.tf we2_112 we2_263 (.tf we2_113 we2_351 we2_352))))))))))),
  (2968270480, 281, (.tf we2_115 we2_2 (.tf we2_116 we2_3 (.tf we2_117 we2_4 (.tf we2_118 we2_5 (.tf we2_119 (.vf 105) (.tf we2_120 (.vf 111) (.tf we2_121 we2_228 (.tf we2_122 we2_264 (.tf we2_123 we2_306 we2_353)))))))))),
  (880163385, 282, (.tf we2_125 we2_2 (.tf we2_126 we2_3 (.tf we2_127 we2_4 (.tf we2_128 we2_5 (.tf we2_129 (.vf 105) (.tf we2_130 (.vf 111) (.tf we2_131 we2_228 (.tf we2_132 we2_264 (.tf we2_133 we2_306 we2_353)))))))))),
  (1206764220, 283, (.tf we2_135 we2_2 (.tf we2_136 we2_3 (.tf we2_137 we2_4 (.tf we2_138 we2_5 (.tf we2_139 (.vf 105) (.tf we2_140 we2_229 (.tf we2_141 we2_265 (.tf we2_142 we2_307 we2_354))))))))),
  (362305902, 284, (.tf we2_144 we2_2 (.tf we2_145 we2_3 (.tf we2_146 we2_4 (.tf we2_147 we2_5 (.tf we2_148 we2_230 (.tf we2_149 we2_266 (.tf we2_150 we2_308 we2_355)))))))),
  (2555971309, 285, (.tf we2_152 we2_2 (.tf we2_153 we2_3 (.tf we2_154 we2_4 (.tf we2_155 we2_5 (.tf we2_156 we2_230 (.tf we2_157 we2_266 (.tf we2_158 we2_308 we2_355)))))))),
  (1231883667, 286, (.tf we2_357 we2_2 (.tf we2_358 we2_3 (.tf we2_359 we2_4 (.tf we2_360 we2_5 (.tf we2_361 (.vf 105) (.tf we2_362 (.vf 111) (.tf we2_363 (.vf 117) (.tf we2_364 (.vf 123) (.tf we2_365 (.vf 129) (.tf we2_366 (.vf 135) (.tf we2_367 (.vf 141) (.tf we2_368 (.vf 147) (.tf we2_369 we2_210 (.tf we2_370 we2_245 (.tf we2_371 we2_282 (.tf we2_372 we2_325 we2_373))))))))))))))))),
  (1337441979, 287, (.tf we2_375 we2_2 (.tf we2_376 we2_3 (.tf we2_377 we2_4 (.tf we2_378 we2_5 (.tf we2_379 (.vf 105) (.tf we2_380 (.vf 111) (.tf we2_381 (.vf 117) (.tf we2_382 (.vf 123) (.tf we2_383 (.vf 129) (.tf we2_384 (.vf 135) (.tf we2_385 (.vf 141) (.tf we2_386 (.vf 147) (.tf we2_387 we2_210 (.tf we2_388 we2_245 (.tf we2_389 we2_282 (.tf we2_390 we2_325 we2_373))))))))))))))))),
  (2589495422, 288, (.tf we2_310 we2_2 (.tf we2_311 we2_3 (.tf we2_312 we2_4 (.tf we2_313 we2_5 (.tf we2_314 (.vf 105) (.tf we2_315 (.vf 111) (.tf we2_316 (.vf 117) (.tf we2_317 (.vf 123) (.tf we2_318 (.vf 129) (.tf we2_319 (.vf 135) (.tf we2_320 (.vf 141) (.tf we2_321 we2_224 (.tf we2_322 we2_260 (.tf we2_323 we2_298 (.tf we2_324 we2_342 we2_391)))))))))))))))),
  (540972694, 289, (.tf we2_327 we2_2 (.tf we2_328 we2_3 (.tf we2_329 we2_4 (.tf we2_330 we2_5 (.tf we2_331 (.vf 105) (.tf we2_332 (.vf 111) (.tf we2_333 (.vf 117) (.tf we2_334 (.vf 123) (.tf we2_335 (.vf 129) (.tf we2_336 (.vf 135) (.tf we2_337 (.vf 141) (.tf we2_338 we2_224 (.tf we2_339 we2_260 (.tf we2_340 we2_298 (.tf we2_341 we2_342 we2_391)))))))))))))))),
  (814746560, 290, (.tf we2_268 we2_2 (.tf we2_269 we2_3 (.tf we2_270 we2_4 (.tf we2_271 we2_5 (.tf we2_272 (.vf 105) (.tf we2_273 (.vf 111) (.tf we2_274 (.vf 117) (.tf we2_275 (.vf 123) (.tf we2_276 (.vf 129) (.tf we2_277 (.vf 135) (.tf we2_278 we2_225 (.tf we2_279 we2_261 (.tf we2_280 we2_299 (.tf we2_281 we2_343 we2_392))))))))))))))),
  (907110083, 291, (.tf we2_284 we2_2 (.tf we2_285 we2_3 (.tf we2_286 we2_4 (.tf we2_287 we2_5 (.tf we2_288 (.vf 105) (.tf we2_289 (.vf 111) (.tf we2_290 (.vf 117) (.tf we2_291 (.vf 123) (.tf we2_292 (.vf 129) (.tf we2_293 (.vf 135) (.tf we2_294 we2_225 (.tf we2_295 we2_261 (.tf we2_296 we2_299 (.tf we2_297 we2_343 we2_392))))))))))))))),
  (861231004, 292, (.tf we2_115 we2_2 (.tf we2_116 we2_3 (.tf we2_117 we2_4 (.tf we2_118 we2_5 (.tf we2_119 (.vf 105) (.tf we2_120 (.vf 111) (.tf we2_121 (.vf 117) (.tf we2_122 (.vf 123) (.tf we2_123 (.vf 129) we2_393)))))))))),
  (3068091200, 293, (.tf we2_125 we2_2 (.tf we2_126 we2_3 (.tf we2_127 we2_4 (.tf we2_128 we2_5 (.tf we2_129 (.vf 105) (.tf we2_130 (.vf 111) (.tf we2_131 (.vf 117) (.tf we2_132 (.vf 123) (.tf we2_133 (.vf 129) we2_393)))))))))),
  (2447435683, 294, (.tf we2_93 we2_2 (.tf we2_94 we2_3 (.tf we2_95 we2_4 (.tf we2_96 we2_5 (.tf we2_97 (.vf 105) (.tf we2_98 (.vf 111) (.tf we2_99 (.vf 117) (.tf we2_100 (.vf 123) (.tf we2_101 (.vf 129) (.tf we2_102 we2_393 we2_394))))))))))),
  (2513409628, 295, (.tf we2_104 we2_2 (.tf we2_105 we2_3 (.tf we2_106 we2_4 (.tf we2_107 we2_5 (.tf we2_108 (.vf 105) (.tf we2_109 (.vf 111) (.tf we2_110 (.vf 117) (.tf we2_111 (.vf 123) (.tf we2_112 (.vf 129) (.tf we2_113 we2_393 we2_394))))))))))),
  (3442009214, 296, (.tf we2_68 we2_2 (.tf we2_69 we2_3 (.tf we2_70 we2_4 (.tf we2_71 we2_5 (.tf we2_72 (.vf 105) (.tf we2_73 (.vf 111) (.tf we2_74 (.vf 117) (.tf we2_75 (.vf 123) (.tf we2_76 (.vf 129) (.tf we2_77 we2_393 (.tf we2_78 we2_394 we2_395)))))))))))),
  (1367096908, 297, (.tf we2_81 we2_2 (.tf we2_82 we2_3 (.tf we2_83 we2_4 (.tf we2_84 we2_5 (.tf we2_85 (.vf 105) (.tf we2_86 (.vf 111) (.tf we2_87 (.vf 117) (.tf we2_88 (.vf 123) (.tf we2_89 (.vf 129) (.tf we2_90 we2_393 (.tf we2_91 we2_394 we2_395)))))))))))),
  (4152431819, 298, (.tf we2_198 we2_2 (.tf we2_199 we2_3 (.tf we2_200 we2_4 (.tf we2_201 we2_5 (.tf we2_202 (.vf 105) (.tf we2_203 (.vf 111) (.tf we2_204 (.vf 117) (.tf we2_205 (.vf 123) (.tf we2_206 (.vf 129) (.tf we2_207 we2_393 (.tf we2_208 we2_394 (.tf we2_209 we2_395 we2_396))))))))))))),
  (4231600553, 299, (.tf we2_212 we2_2 (.tf we2_213 we2_3 (.tf we2_214 we2_4 (.tf we2_215 we2_5 (.tf we2_216 (.vf 105) (.tf we2_217 (.vf 111) (.tf we2_218 (.vf 117) (.tf we2_219 (.vf 123) (.tf we2_220 (.vf 129) (.tf we2_221 we2_393 (.tf we2_222 we2_394 (.tf we2_223 we2_395 we2_396))))))))))))),
  (283736207, 300, (.tf we2_232 we2_2 (.tf we2_233 we2_3 (.tf we2_234 we2_4 (.tf we2_235 we2_5 (.tf we2_236 (.vf 105) (.tf we2_237 (.vf 111) (.tf we2_238 (.vf 117) (.tf we2_239 (.vf 123) (.tf we2_240 (.vf 129) (.tf we2_241 we2_393 (.tf we2_242 we2_394 (.tf we2_243 we2_395 (.tf we2_244 we2_396 we2_397)))))))))))))),
  (2516985981, 301, (.tf we2_247 we2_2 (.tf we2_248 we2_3 (.tf we2_249 we2_4 (.tf we2_250 we2_5 (.tf we2_251 (.vf 105) (.tf we2_252 (.vf 111) (.tf we2_253 (.vf 117) (.tf we2_254 (.vf 123) (.tf we2_255 (.vf 129) (.tf we2_256 we2_393 (.tf we2_257 we2_394 (.tf we2_258 we2_395 (.tf we2_259 we2_396 we2_397)))))))))))))),
  (3100455065, 302, (.tf we2_115 we2_2 (.tf we2_116 we2_3 (.tf we2_117 we2_4 (.tf we2_118 we2_5 (.tf we2_119 (.vf 105) (.tf we2_120 (.vf 111) (.tf we2_121 (.vf 117) (.tf we2_122 (.vf 123) (.tf we2_123 we2_226 we2_398)))))))))),
  (1012347970, 303, (.tf we2_125 we2_2 (.tf we2_126 we2_3 (.tf we2_127 we2_4 (.tf we2_128 we2_5 (.tf we2_129 (.vf 105) (.tf we2_130 (.vf 111) (.tf we2_131 (.vf 117) (.tf we2_132 (.vf 123) (.tf we2_133 we2_226 we2_398)))))))))),
  (422692535, 304, (.tf we2_93 we2_2 (.tf we2_94 we2_3 (.tf we2_95 we2_4 (.tf we2_96 we2_5 (.tf we2_97 (.vf 105) (.tf we2_98 (.vf 111) (.tf we2_99 (.vf 117) (.tf we2_100 (.vf 123) (.tf we2_101 we2_226 (.tf we2_102 we2_398 we2_399))))))))))),
  (488666480, 305, (.tf we2_104 we2_2 (.tf we2_105 we2_3 (.tf we2_106 we2_4 (.tf we2_107 we2_5 (.tf we2_108 (.vf 105) (.tf we2_109 (.vf 111) (.tf we2_110 (.vf 117) (.tf we2_111 (.vf 123) (.tf we2_112 we2_226 (.tf we2_113 we2_398 we2_399))))))))))),
  (2803412738, 306, (.tf we2_68 we2_2 (.tf we2_69 we2_3 (.tf we2_70 we2_4 (.tf we2_71 we2_5 (.tf we2_72 (.vf 105) (.tf we2_73 (.vf 111) (.tf we2_74 (.vf 117) (.tf we2_75 (.vf 123) (.tf we2_76 we2_226 (.tf we2_77 we2_398 (.tf we2_78 we2_399 we2_400)))))))))))),
  (728500432, 307, (.tf we2_81 we2_2 (.tf we2_82 we2_3 (.tf we2_83 we2_4 (.tf we2_84 we2_5 (.tf we2_85 (.vf 105) (.tf we2_86 (.vf 111) (.tf we2_87 (.vf 117) (.tf we2_88 (.vf 123) (.tf we2_89 we2_226 (.tf we2_90 we2_398 (.tf we2_91 we2_399 we2_400)))))))))))),
  (605014724, 308, (.tf we2_198 we2_2 (.tf we2_199 we2_3 (.tf we2_200 we2_4 (.tf we2_201 we2_5 (.tf we2_202 (.vf 105) (.tf we2_203 (.vf 111) (.tf we2_204 (.vf 117) (.tf we2_205 (.vf 123) (.tf we2_206 we2_226 (.tf we2_207 we2_398 (.tf we2_208 we2_399 (.tf we2_209 we2_400 we2_401))))))))))))),
  (684183458, 309, (.tf we2_212 we2_2 (.tf we2_213 we2_3 (.tf we2_214 we2_4 (.tf we2_215 we2_5 (.tf we2_216 (.vf 105) (.tf we2_217 (.vf 111) (.tf we2_218 (.vf 117) (.tf we2_219 (.vf 123) (.tf we2_220 we2_226 (.tf we2_221 we2_398 (.tf we2_222 we2_399 (.tf we2_223 we2_400 we2_401))))))))))))),
  (1661868827, 310, (.tf we2_115 we2_2 (.tf we2_116 we2_3 (.tf we2_117 we2_4 (.tf we2_118 we2_5 (.tf we2_119 (.vf 105) (.tf we2_120 (.vf 111) (.tf we2_121 (.vf 117) (.tf we2_122 we2_227 (.tf we2_123 we2_263 we2_402)))))))))),
  (3868729023, 311, (.tf we2_125 we2_2 (.tf we2_126 we2_3 (.tf we2_127 we2_4 (.tf we2_128 we2_5 (.tf we2_129 (.vf 105) (.tf we2_130 (.vf 111) (.tf we2_131 (.vf 117) (.tf we2_132 we2_227 (.tf we2_133 we2_263 we2_402)))))))))),
  (3311073668, 312, (.tf we2_93 we2_2 (.tf we2_94 we2_3 (.tf we2_95 we2_4 (.tf we2_96 we2_5 (.tf we2_97 (.vf 105) (.tf we2_98 (.vf 111) (.tf we2_99 (.vf 117) (.tf we2_100 we2_227 (.tf we2_101 we2_263 (.tf we2_102 we2_402 we2_403))))))))))),
  (3377047613, 313, (.tf we2_104 we2_2 (.tf we2_105 we2_3 (.tf we2_106 we2_4 (.tf we2_107 we2_5 (.tf we2_108 (.vf 105) (.tf we2_109 (.vf 111) (.tf we2_110 (.vf 117) (.tf we2_111 we2_227 (.tf we2_112 we2_263 (.tf we2_113 we2_402 we2_403))))))))))),
  (4223730834, 314, (.tf we2_68 we2_2 (.tf we2_69 we2_3 (.tf we2_70 we2_4 (.tf we2_71 we2_5 (.tf we2_72 (.vf 105) (.tf we2_73 (.vf 111) (.tf we2_74 (.vf 117) (.tf we2_75 we2_227 (.tf we2_76 we2_263 (.tf we2_77 we2_402 (.tf we2_78 we2_403 we2_404)))))))))))),
  (2148818528, 315, (.tf we2_81 we2_2 (.tf we2_82 we2_3 (.tf we2_83 we2_4 (.tf we2_84 we2_5 (.tf we2_85 (.vf 105) (.tf we2_86 (.vf 111) (.tf we2_87 (.vf 117) (.tf we2_88 we2_227 (.tf we2_89 we2_263 (.tf we2_90 we2_402 (.tf we2_91 we2_403 we2_404)))))))))))),
  (2343979410, 316, (.tf we2_115 we2_2 (.tf we2_116 we2_3 (.tf we2_117 we2_4 (.tf we2_118 we2_5 (.tf we2_119 (.vf 105) (.tf we2_120 (.vf 111) (.tf we2_121 we2_228 (.tf we2_122 we2_264 (.tf we2_123 we2_306 we2_405)))))))))),
  (255872315, 317, (.tf we2_125 we2_2 (.tf we2_126 we2_3 (.tf we2_127 we2_4 (.tf we2_128 we2_5 (.tf we2_129 (.vf 105) (.tf we2_130 (.vf 111) (.tf we2_131 we2_228 (.tf we2_132 we2_264 (.tf we2_133 we2_306 we2_405)))))))))),
  (2421523692, 318, (.tf we2_93 we2_2 (.tf we2_94 we2_3 (.tf we2_95 we2_4 (.tf we2_96 we2_5 (.tf we2_97 (.vf 105) (.tf we2_98 (.vf 111) (.tf we2_99 we2_228 (.tf we2_100 we2_264 (.tf we2_101 we2_306 (.tf we2_102 we2_405 we2_406))))))))))),
  (2487497637, 319, (.tf we2_104 we2_2 (.tf we2_105 we2_3 (.tf we2_106 we2_4 (.tf we2_107 we2_5 (.tf we2_108 (.vf 105) (.tf we2_109 (.vf 111) (.tf we2_110 we2_228 (.tf we2_111 we2_264 (.tf we2_112 we2_306 (.tf we2_113 we2_405 we2_406))))))))))),
  (3443937464, 320, (.tf we2_115 we2_2 (.tf we2_116 we2_3 (.tf we2_117 we2_4 (.tf we2_118 we2_5 (.tf we2_119 (.vf 105) (.tf we2_120 we2_229 (.tf we2_121 we2_265 (.tf we2_122 we2_307 (.tf we2_123 we2_354 we2_407)))))))))),
  (1355830369, 321, (.tf we2_125 we2_2 (.tf we2_126 we2_3 (.tf we2_127 we2_4 (.tf we2_128 we2_5 (.tf we2_129 (.vf 105) (.tf we2_130 we2_229 (.tf we2_131 we2_265 (.tf we2_132 we2_307 (.tf we2_133 we2_354 we2_407)))))))))),
  (3146017541, 322, (.tf we2_135 we2_2 (.tf we2_136 we2_3 (.tf we2_137 we2_4 (.tf we2_138 we2_5 (.tf we2_139 we2_230 (.tf we2_140 we2_266 (.tf we2_141 we2_308 (.tf we2_142 we2_355 we2_408))))))))),
  (46616599, 323, (.tf we2_410 we2_2 (.tf we2_411 we2_3 (.tf we2_412 we2_4 (.tf we2_413 we2_5 (.tf we2_414 (.vf 105) (.tf we2_415 (.vf 111) (.tf we2_416 (.vf 117) (.tf we2_417 (.vf 123) (.tf we2_418 (.vf 129) (.tf we2_419 (.vf 135) (.tf we2_420 (.vf 141) (.tf we2_421 (.vf 147) (.tf we2_422 we2_210 (.tf we2_423 we2_245 (.tf we2_424 we2_282 (.tf we2_425 we2_325 (.tf we2_426 we2_373 we2_427)))))))))))))))))),
  (2306255951, 324, (.tf we2_429 we2_2 (.tf we2_430 we2_3 (.tf we2_431 we2_4 (.tf we2_432 we2_5 (.tf we2_433 (.vf 105) (.tf we2_434 (.vf 111) (.tf we2_435 (.vf 117) (.tf we2_436 (.vf 123) (.tf we2_437 (.vf 129) (.tf we2_438 (.vf 135) (.tf we2_439 (.vf 141) (.tf we2_440 (.vf 147) (.tf we2_441 we2_210 (.tf we2_442 we2_245 (.tf we2_443 we2_282 (.tf we2_444 we2_325 (.tf we2_445 we2_373 we2_427)))))))))))))))))),
  (3101831407, 325, (.tf we2_357 we2_2 (.tf we2_358 we2_3 (.tf we2_359 we2_4 (.tf we2_360 we2_5 (.tf we2_361 (.vf 105) (.tf we2_362 (.vf 111) (.tf we2_363 (.vf 117) (.tf we2_364 (.vf 123) (.tf we2_365 (.vf 129) (.tf we2_366 (.vf 135) (.tf we2_367 (.vf 141) (.tf we2_368 we2_224 (.tf we2_369 we2_260 (.tf we2_370 we2_298 (.tf we2_371 we2_342 (.tf we2_372 we2_391 we2_446))))))))))))))))),
  (3207389719, 326, (.tf we2_375 we2_2 (.tf we2_376 we2_3 (.tf we2_377 we2_4 (.tf we2_378 we2_5 (.tf we2_379 (.vf 105) (.tf we2_380 (.vf 111) (.tf we2_381 (.vf 117) (.tf we2_382 (.vf 123) (.tf we2_383 (.vf 129) (.tf we2_384 (.vf 135) (.tf we2_385 (.vf 141) (.tf we2_386 we2_224 (.tf we2_387 we2_260 (.tf we2_388 we2_298 (.tf we2_389 we2_342 (.tf we2_390 we2_391 we2_446))))))))))))))))),
  (3024685598, 327, (.tf we2_310 we2_2 (.tf we2_311 we2_3 (.tf we2_312 we2_4 (.tf we2_313 we2_5 (.tf we2_314 (.vf 105) (.tf we2_315 (.vf 111) (.tf we2_316 (.vf 117) (.tf we2_317 (.vf 123) (.tf we2_318 (.vf 129) (.tf we2_319 (.vf 135) (.tf we2_320 we2_225 (.tf we2_321 we2_261 (.tf we2_322 we2_299 (.tf we2_323 we2_343 (.tf we2_324 we2_392 we2_447)))))))))))))))),
  (976162870, 328, (.tf we2_327 we2_2 (.tf we2_328 we2_3 (.tf we2_329 we2_4 (.tf we2_330 we2_5 (.tf we2_331 (.vf 105) (.tf we2_332 (.vf 111) (.tf we2_333 (.vf 117) (.tf we2_334 (.vf 123) (.tf we2_335 (.vf 129) (.tf we2_336 (.vf 135) (.tf we2_337 we2_225 (.tf we2_338 we2_261 (.tf we2_339 we2_299 (.tf we2_340 we2_343 (.tf we2_341 we2_392 we2_447)))))))))))))))),
  (867231022, 329, (.tf we2_115 we2_2 (.tf we2_116 we2_3 (.tf we2_117 we2_4 (.tf we2_118 we2_5 (.tf we2_119 (.vf 105) (.tf we2_120 (.vf 111) (.tf we2_121 (.vf 117) (.tf we2_122 (.vf 123) (.tf we2_123 (.vf 129) we2_448)))))))))),
  (3074091218, 330, (.tf we2_125 we2_2 (.tf we2_126 we2_3 (.tf we2_127 we2_4 (.tf we2_128 we2_5 (.tf we2_129 (.vf 105) (.tf we2_130 (.vf 111) (.tf we2_131 (.vf 117) (.tf we2_132 (.vf 123) (.tf we2_133 (.vf 129) we2_448)))))))))),
  (2451130358, 331, (.tf we2_93 we2_2 (.tf we2_94 we2_3 (.tf we2_95 we2_4 (.tf we2_96 we2_5 (.tf we2_97 (.vf 105) (.tf we2_98 (.vf 111) (.tf we2_99 (.vf 117) (.tf we2_100 (.vf 123) (.tf we2_101 (.vf 129) (.tf we2_102 we2_448 we2_449))))))))))),
  (2517104303, 332, (.tf we2_104 we2_2 (.tf we2_105 we2_3 (.tf we2_106 we2_4 (.tf we2_107 we2_5 (.tf we2_108 (.vf 105) (.tf we2_109 (.vf 111) (.tf we2_110 (.vf 117) (.tf we2_111 (.vf 123) (.tf we2_112 (.vf 129) (.tf we2_113 we2_448 we2_449))))))))))),
  (2561492368, 333, (.tf we2_68 we2_2 (.tf we2_69 we2_3 (.tf we2_70 we2_4 (.tf we2_71 we2_5 (.tf we2_72 (.vf 105) (.tf we2_73 (.vf 111) (.tf we2_74 (.vf 117) (.tf we2_75 (.vf 123) (.tf we2_76 (.vf 129) (.tf we2_77 we2_448 (.tf we2_78 we2_449 we2_450)))))))))))),
  (486580062, 334, (.tf we2_81 we2_2 (.tf we2_82 we2_3 (.tf we2_83 we2_4 (.tf we2_84 we2_5 (.tf we2_85 (.vf 105) (.tf we2_86 (.vf 111) (.tf we2_87 (.vf 117) (.tf we2_88 (.vf 123) (.tf we2_89 (.vf 129) (.tf we2_90 we2_448 (.tf we2_91 we2_449 we2_450)))))))))))),
  (2387703452, 335, (.tf we2_198 we2_2 (.tf we2_199 we2_3 (.tf we2_200 we2_4 (.tf we2_201 we2_5 (.tf we2_202 (.vf 105) (.tf we2_203 (.vf 111) (.tf we2_204 (.vf 117) (.tf we2_205 (.vf 123) (.tf we2_206 (.vf 129) (.tf we2_207 we2_448 (.tf we2_208 we2_449 (.tf we2_209 we2_450 we2_451))))))))))))),
  (2466872186, 336, (.tf we2_212 we2_2 (.tf we2_213 we2_3 (.tf we2_214 we2_4 (.tf we2_215 we2_5 (.tf we2_216 (.vf 105) (.tf we2_217 (.vf 111) (.tf we2_218 (.vf 117) (.tf we2_219 (.vf 123) (.tf we2_220 (.vf 129) (.tf we2_221 we2_448 (.tf we2_222 we2_449 (.tf we2_223 we2_450 we2_451))))))))))))),
  (1929763610, 337, (.tf we2_232 we2_2 (.tf we2_233 we2_3 (.tf we2_234 we2_4 (.tf we2_235 we2_5 (.tf we2_236 (.vf 105) (.tf we2_237 (.vf 111) (.tf we2_238 (.vf 117) (.tf we2_239 (.vf 123) (.tf we2_240 (.vf 129) (.tf we2_241 we2_448 (.tf we2_242 we2_449 (.tf we2_243 we2_450 (.tf we2_244 we2_451 we2_452)))))))))))))),
  (4163013384, 338, (.tf we2_247 we2_2 (.tf we2_248 we2_3 (.tf we2_249 we2_4 (.tf we2_250 we2_5 (.tf we2_251 (.vf 105) (.tf we2_252 (.vf 111) (.tf we2_253 (.vf 117) (.tf we2_254 (.vf 123) (.tf we2_255 (.vf 129) (.tf we2_256 we2_448 (.tf we2_257 we2_449 (.tf we2_258 we2_450 (.tf we2_259 we2_451 we2_452)))))))))))))),
  (1187672842, 339, (.tf we2_268 we2_2 (.tf we2_269 we2_3 (.tf we2_270 we2_4 (.tf we2_271 we2_5 (.tf we2_272 (.vf 105) (.tf we2_273 (.vf 111) (.tf we2_274 (.vf 117) (.tf we2_275 (.vf 123) (.tf we2_276 (.vf 129) (.tf we2_277 we2_448 (.tf we2_278 we2_449 (.tf we2_279 we2_450 (.tf we2_280 we2_451 (.tf we2_281 we2_452 we2_453))))))))))))))),
  (1280036365, 340, (.tf we2_284 we2_2 (.tf we2_285 we2_3 (.tf we2_286 we2_4 (.tf we2_287 we2_5 (.tf we2_288 (.vf 105) (.tf we2_289 (.vf 111) (.tf we2_290 (.vf 117) (.tf we2_291 (.vf 123) (.tf we2_292 (.vf 129) (.tf we2_293 we2_448 (.tf we2_294 we2_449 (.tf we2_295 we2_450 (.tf we2_296 we2_451 (.tf we2_297 we2_452 we2_453))))))))))))))),
  (3106455083, 341, (.tf we2_115 we2_2 (.tf we2_116 we2_3 (.tf we2_117 we2_4 (.tf we2_118 we2_5 (.tf we2_119 (.vf 105) (.tf we2_120 (.vf 111) (.tf we2_121 (.vf 117) (.tf we2_122 (.vf 123) (.tf we2_123 we2_226 we2_454)))))))))),
  (1018347988, 342, (.tf we2_125 we2_2 (.tf we2_126 we2_3 (.tf we2_127 we2_4 (.tf we2_128 we2_5 (.tf we2_129 (.vf 105) (.tf we2_130 (.vf 111) (.tf we2_131 (.vf 117) (.tf we2_132 (.vf 123) (.tf we2_133 we2_226 we2_454)))))))))),
  (428387218, 343, (.tf we2_93 we2_2 (.tf we2_94 we2_3 (.tf we2_95 we2_4 (.tf we2_96 we2_5 (.tf we2_97 (.vf 105) (.tf we2_98 (.vf 111) (.tf we2_99 (.vf 117) (.tf we2_100 (.vf 123) (.tf we2_101 we2_226 (.tf we2_102 we2_454 we2_455))))))))))),
  (494361163, 344, (.tf we2_104 we2_2 (.tf we2_105 we2_3 (.tf we2_106 we2_4 (.tf we2_107 we2_5 (.tf we2_108 (.vf 105) (.tf we2_109 (.vf 111) (.tf we2_110 (.vf 117) (.tf we2_111 (.vf 123) (.tf we2_112 we2_226 (.tf we2_113 we2_454 we2_455))))))))))),
  (484138318, 345, (.tf we2_68 we2_2 (.tf we2_69 we2_3 (.tf we2_70 we2_4 (.tf we2_71 we2_5 (.tf we2_72 (.vf 105) (.tf we2_73 (.vf 111) (.tf we2_74 (.vf 117) (.tf we2_75 (.vf 123) (.tf we2_76 we2_226 (.tf we2_77 we2_454 (.tf we2_78 we2_455 we2_456)))))))))))),
  (2704193303, 346, (.tf we2_81 we2_2 (.tf we2_82 we2_3 (.tf we2_83 we2_4 (.tf we2_84 we2_5 (.tf we2_85 (.vf 105) (.tf we2_86 (.vf 111) (.tf we2_87 (.vf 117) (.tf we2_88 (.vf 123) (.tf we2_89 we2_226 (.tf we2_90 we2_454 (.tf we2_91 we2_455 we2_456)))))))))))),
  (255738492, 347, (.tf we2_198 we2_2 (.tf we2_199 we2_3 (.tf we2_200 we2_4 (.tf we2_201 we2_5 (.tf we2_202 (.vf 105) (.tf we2_203 (.vf 111) (.tf we2_204 (.vf 117) (.tf we2_205 (.vf 123) (.tf we2_206 we2_226 (.tf we2_207 we2_454 (.tf we2_208 we2_455 (.tf we2_209 we2_456 we2_457))))))))))))),
  (334907226, 348, (.tf we2_212 we2_2 (.tf we2_213 we2_3 (.tf we2_214 we2_4 (.tf we2_215 we2_5 (.tf we2_216 (.vf 105) (.tf we2_217 (.vf 111) (.tf we2_218 (.vf 117) (.tf we2_219 (.vf 123) (.tf we2_220 we2_226 (.tf we2_221 we2_454 (.tf we2_222 we2_455 (.tf we2_223 we2_456 we2_457))))))))))))),
  (4038155031, 349, (.tf we2_232 we2_2 (.tf we2_233 we2_3 (.tf we2_234 we2_4 (.tf we2_235 we2_5 (.tf we2_236 (.vf 105) (.tf we2_237 (.vf 111) (.tf we2_238 (.vf 117) (.tf we2_239 (.vf 123) (.tf we2_240 we2_226 (.tf we2_241 we2_454 (.tf we2_242 we2_455 (.tf we2_243 we2_456 (.tf we2_244 we2_457 we2_458)))))))))))))),
  (1976437514, 350, (.tf we2_247 we2_2 (.tf we2_248 we2_3 (.tf we2_249 we2_4 (.tf we2_250 we2_5 (.tf we2_251 (.vf 105) (.tf we2_252 (.vf 111) (.tf we2_253 (.vf 117) (.tf we2_254 (.vf 123) (.tf we2_255 we2_226 (.tf we2_256 we2_454 (.tf we2_257 we2_455 (.tf we2_258 we2_456 (.tf we2_259 we2_457 we2_458)))))))))))))),
  (2472335321, 351, (.tf we2_115 we2_2 (.tf we2_116 we2_3 (.tf we2_117 we2_4 (.tf we2_118 we2_5 (.tf we2_119 (.vf 105) (.tf we2_120 (.vf 111) (.tf we2_121 (.vf 117) (.tf we2_122 we2_227 (.tf we2_123 we2_263 we2_459)))))))))),
  (384228226, 352, (.tf we2_125 we2_2 (.tf we2_126 we2_3 (.tf we2_127 we2_4 (.tf we2_128 we2_5 (.tf we2_129 (.vf 105) (.tf we2_130 (.vf 111) (.tf we2_131 (.vf 117) (.tf we2_132 we2_227 (.tf we2_133 we2_263 we2_459)))))))))),
  (3359727032, 353, (.tf we2_93 we2_2 (.tf we2_94 we2_3 (.tf we2_95 we2_4 (.tf we2_96 we2_5 (.tf we2_97 (.vf 105) (.tf we2_98 (.vf 111) (.tf we2_99 (.vf 117) (.tf we2_100 we2_227 (.tf we2_101 we2_263 (.tf we2_102 we2_459 we2_460))))))))))),
  (3425700977, 354, (.tf we2_104 we2_2 (.tf we2_105 we2_3 (.tf we2_106 we2_4 (.tf we2_107 we2_5 (.tf we2_108 (.vf 105) (.tf we2_109 (.vf 111) (.tf we2_110 (.vf 117) (.tf we2_111 we2_227 (.tf we2_112 we2_263 (.tf we2_113 we2_459 we2_460))))))))))),
  (506657513, 355, (.tf we2_68 we2_2 (.tf we2_69 we2_3 (.tf we2_70 we2_4 (.tf we2_71 we2_5 (.tf we2_72 (.vf 105) (.tf we2_73 (.vf 111) (.tf we2_74 (.vf 117) (.tf we2_75 we2_227 (.tf we2_76 we2_263 (.tf we2_77 we2_459 (.tf we2_78 we2_460 we2_461)))))))))))),
  (2726712498, 356, (.tf we2_81 we2_2 (.tf we2_82 we2_3 (.tf we2_83 we2_4 (.tf we2_84 we2_5 (.tf we2_85 (.vf 105) (.tf we2_86 (.vf 111) (.tf we2_87 (.vf 117) (.tf we2_88 we2_227 (.tf we2_89 we2_263 (.tf we2_90 we2_459 (.tf we2_91 we2_460 we2_461)))))))))))),
  (1664404359, 357, (.tf we2_198 we2_2 (.tf we2_199 we2_3 (.tf we2_200 we2_4 (.tf we2_201 we2_5 (.tf we2_202 (.vf 105) (.tf we2_203 (.vf 111) (.tf we2_204 (.vf 117) (.tf we2_205 we2_227 (.tf we2_206 we2_263 (.tf we2_207 we2_459 (.tf we2_208 we2_460 (.tf we2_209 we2_461 we2_462))))))))))))),
  (1743573093, 358, (.tf we2_212 we2_2 (.tf we2_213 we2_3 (.tf we2_214 we2_4 (.tf we2_215 we2_5 (.tf we2_216 (.vf 105) (.tf we2_217 (.vf 111) (.tf we2_218 (.vf 117) (.tf we2_219 we2_227 (.tf we2_220 we2_263 (.tf we2_221 we2_459 (.tf we2_222 we2_460 (.tf we2_223 we2_461 we2_462))))))))))))),
  (1541684254, 359, (.tf we2_115 we2_2 (.tf we2_116 we2_3 (.tf we2_117 we2_4 (.tf we2_118 we2_5 (.tf we2_119 (.vf 105) (.tf we2_120 (.vf 111) (.tf we2_121 we2_228 (.tf we2_122 we2_264 (.tf we2_123 we2_306 we2_463)))))))))),
  (3748544450, 360, (.tf we2_125 we2_2 (.tf we2_126 we2_3 (.tf we2_127 we2_4 (.tf we2_128 we2_5 (.tf we2_129 (.vf 105) (.tf we2_130 (.vf 111) (.tf we2_131 we2_228 (.tf we2_132 we2_264 (.tf we2_133 we2_306 we2_463)))))))))),
  (496629905, 361, (.tf we2_93 we2_2 (.tf we2_94 we2_3 (.tf we2_95 we2_4 (.tf we2_96 we2_5 (.tf we2_97 (.vf 105) (.tf we2_98 (.vf 111) (.tf we2_99 we2_228 (.tf we2_100 we2_264 (.tf we2_101 we2_306 (.tf we2_102 we2_463 we2_464))))))))))),
  (562603850, 362, (.tf we2_104 we2_2 (.tf we2_105 we2_3 (.tf we2_106 we2_4 (.tf we2_107 we2_5 (.tf we2_108 (.vf 105) (.tf we2_109 (.vf 111) (.tf we2_110 we2_228 (.tf we2_111 we2_264 (.tf we2_112 we2_306 (.tf we2_113 we2_463 we2_464))))))))))),
  (470464640, 363, (.tf we2_68 we2_2 (.tf we2_69 we2_3 (.tf we2_70 we2_4 (.tf we2_71 we2_5 (.tf we2_72 (.vf 105) (.tf we2_73 (.vf 111) (.tf we2_74 we2_228 (.tf we2_75 we2_264 (.tf we2_76 we2_306 (.tf we2_77 we2_463 (.tf we2_78 we2_464 we2_465)))))))))))),
  (2690519625, 364, (.tf we2_81 we2_2 (.tf we2_82 we2_3 (.tf we2_83 we2_4 (.tf we2_84 we2_5 (.tf we2_85 (.vf 105) (.tf we2_86 (.vf 111) (.tf we2_87 we2_228 (.tf we2_88 we2_264 (.tf we2_89 we2_306 (.tf we2_90 we2_463 (.tf we2_91 we2_464 we2_465)))))))))))),
  (480505935, 365, (.tf we2_115 we2_2 (.tf we2_116 we2_3 (.tf we2_117 we2_4 (.tf we2_118 we2_5 (.tf we2_119 (.vf 105) (.tf we2_120 we2_229 (.tf we2_121 we2_265 (.tf we2_122 we2_307 (.tf we2_123 we2_354 we2_466)))))))))),
  (2687366131, 366, (.tf we2_125 we2_2 (.tf we2_126 we2_3 (.tf we2_127 we2_4 (.tf we2_128 we2_5 (.tf we2_129 (.vf 105) (.tf we2_130 we2_229 (.tf we2_131 we2_265 (.tf we2_132 we2_307 (.tf we2_133 we2_354 we2_466)))))))))),
  (2747185453, 367, (.tf we2_93 we2_2 (.tf we2_94 we2_3 (.tf we2_95 we2_4 (.tf we2_96 we2_5 (.tf we2_97 (.vf 105) (.tf we2_98 we2_229 (.tf we2_99 we2_265 (.tf we2_100 we2_307 (.tf we2_101 we2_354 (.tf we2_102 we2_466 we2_467))))))))))),
  (2813159398, 368, (.tf we2_104 we2_2 (.tf we2_105 we2_3 (.tf we2_106 we2_4 (.tf we2_107 we2_5 (.tf we2_108 (.vf 105) (.tf we2_109 we2_229 (.tf we2_110 we2_265 (.tf we2_111 we2_307 (.tf we2_112 we2_354 (.tf we2_113 we2_466 we2_467))))))))))),
  (702252494, 369, (.tf we2_115 we2_2 (.tf we2_116 we2_3 (.tf we2_117 we2_4 (.tf we2_118 we2_5 (.tf we2_119 we2_230 (.tf we2_120 we2_266 (.tf we2_121 we2_308 (.tf we2_122 we2_355 (.tf we2_123 we2_408 we2_468)))))))))),
  (2909112690, 370, (.tf we2_125 we2_2 (.tf we2_126 we2_3 (.tf we2_127 we2_4 (.tf we2_128 we2_5 (.tf we2_129 we2_230 (.tf we2_130 we2_266 (.tf we2_131 we2_308 (.tf we2_132 we2_355 (.tf we2_133 we2_408 we2_468)))))))))),
  (609807735, 371, (.tf (.ic .eql we2_469 (.li 0)) we2_2 (.tf (.ic .eql we2_469 (.li 1)) we2_3 (.tf (.ic .eql we2_469 (.li 2)) we2_4 (.tf (.ic .eql we2_469 (.li 3)) we2_5 (.tf (.ic .eql we2_469 (.li 4)) (.vf 105) (.tf (.ic .eql we2_469 (.li 5)) (.vf 111) (.tf (.ic .eql we2_469 (.li 6)) (.vf 117) (.tf (.ic .eql we2_469 (.li 7)) (.vf 123) (.tf (.ic .eql we2_469 (.li 8)) (.vf 129) (.tf (.ic .eql we2_469 (.li 9)) (.vf 135) (.tf (.ic .eql we2_469 (.li 10)) (.vf 141) (.tf (.ic .eql we2_469 (.li 11)) (.vf 147) (.tf (.ic .eql we2_469 (.li 12)) we2_210 (.tf (.ic .eql we2_469 (.li 13)) we2_245 (.tf (.ic .eql we2_469 (.li 14)) we2_282 (.tf (.ic .eql we2_469 (.li 15)) we2_325 (.tf (.ic .eql we2_469 (.li 16)) we2_373 (.tf (.ic .eql we2_469 (.li 17)) we2_427 we2_470))))))))))))))))))),
  (728560836, 372, (.tf (.ic .eql we2_471 (.li 0)) we2_2 (.tf (.ic .eql we2_471 (.li 1)) we2_3 (.tf (.ic .eql we2_471 (.li 2)) we2_4 (.tf (.ic .eql we2_471 (.li 3)) we2_5 (.tf (.ic .eql we2_471 (.li 4)) (.vf 105) (.tf (.ic .eql we2_471 (.li 5)) (.vf 111) (.tf (.ic .eql we2_471 (.li 6)) (.vf 117) (.tf (.ic .eql we2_471 (.li 7)) (.vf 123) (.tf (.ic .eql we2_471 (.li 8)) (.vf 129) (.tf (.ic .eql we2_471 (.li 9)) (.vf 135) (.tf (.ic .eql we2_471 (.li 10)) (.vf 141) (.tf (.ic .eql we2_471 (.li 11)) (.vf 147) (.tf (.ic .eql we2_471 (.li 12)) we2_210 (.tf (.ic .eql we2_471 (.li 13)) we2_245 (.tf (.ic .eql we2_471 (.li 14)) we2_282 (.tf (.ic .eql we2_471 (.li 15)) we2_325 (.tf (.ic .eql we2_471 (.li 16)) we2_373 (.tf (.ic .eql we2_471 (.li 17)) we2_427 we2_470))))))))))))))))))),
  (1067658305, 373, (.tf we2_410 we2_2 (.tf we2_411 we2_3 (.tf we2_412 we2_4 (.tf we2_413 we2_5 (.tf we2_414 (.vf 105) (.tf we2_415 (.vf 111) (.tf we2_416 (.vf 117) (.tf we2_417 (.vf 123) (.tf we2_418 (.vf 129) (.tf we2_419 (.vf 135) (.tf we2_420 (.vf 141) (.tf we2_421 we2_224 (.tf we2_422 we2_260 (.tf we2_423 we2_298 (.tf we2_424 we2_342 (.tf we2_425 we2_391 (.tf we2_426 we2_446 we2_472)))))))))))))))))),
  (3327297657, 374, (.tf we2_429 we2_2 (.tf we2_430 we2_3 (.tf we2_431 we2_4 (.tf we2_432 we2_5 (.tf we2_433 (.vf 105) (.tf we2_434 (.vf 111) (.tf we2_435 (.vf 117) (.tf we2_436 (.vf 123) (.tf we2_437 (.vf 129) (.tf we2_438 (.vf 135) (.tf we2_439 (.vf 141) (.tf we2_440 we2_224 (.tf we2_441 we2_260 (.tf we2_442 we2_298 (.tf we2_443 we2_342 (.tf we2_444 we2_391 (.tf we2_445 we2_446 we2_472)))))))))))))))))),
  (2688115549, 375, (.tf we2_357 we2_2 (.tf we2_358 we2_3 (.tf we2_359 we2_4 (.tf we2_360 we2_5 (.tf we2_361 (.vf 105) (.tf we2_362 (.vf 111) (.tf we2_363 (.vf 117) (.tf we2_364 (.vf 123) (.tf we2_365 (.vf 129) (.tf we2_366 (.vf 135) (.tf we2_367 we2_225 (.tf we2_368 we2_261 (.tf we2_369 we2_299 (.tf we2_370 we2_343 (.tf we2_371 we2_392 (.tf we2_372 we2_447 we2_473))))))))))))))))),
  (2793673861, 376, (.tf we2_375 we2_2 (.tf we2_376 we2_3 (.tf we2_377 we2_4 (.tf we2_378 we2_5 (.tf we2_379 (.vf 105) (.tf we2_380 (.vf 111) (.tf we2_381 (.vf 117) (.tf we2_382 (.vf 123) (.tf we2_383 (.vf 129) (.tf we2_384 (.vf 135) (.tf we2_385 we2_225 (.tf we2_386 we2_261 (.tf we2_387 we2_299 (.tf we2_388 we2_343 (.tf we2_389 we2_392 (.tf we2_390 we2_447 we2_473))))))))))))))))),
  (873231040, 377, (.tf we2_115 we2_2 (.tf we2_116 we2_3 (.tf we2_117 we2_4 (.tf we2_118 we2_5 (.tf we2_119 (.vf 105) (.tf we2_120 (.vf 111) (.tf we2_121 (.vf 117) (.tf we2_122 (.vf 123) (.tf we2_123 (.vf 129) we2_474)))))))))),
  (3080091236, 378, (.tf we2_125 we2_2 (.tf we2_126 we2_3 (.tf we2_127 we2_4 (.tf we2_128 we2_5 (.tf we2_129 (.vf 105) (.tf we2_130 (.vf 111) (.tf we2_131 (.vf 117) (.tf we2_132 (.vf 123) (.tf we2_133 (.vf 129) we2_474)))))))))),
  (2465825077, 379, (.tf we2_93 we2_2 (.tf we2_94 we2_3 (.tf we2_95 we2_4 (.tf we2_96 we2_5 (.tf we2_97 (.vf 105) (.tf we2_98 (.vf 111) (.tf we2_99 (.vf 117) (.tf we2_100 (.vf 123) (.tf we2_101 (.vf 129) (.tf we2_102 we2_474 we2_475))))))))))),
  (2531799022, 380, (.tf we2_104 we2_2 (.tf we2_105 we2_3 (.tf we2_106 we2_4 (.tf we2_107 we2_5 (.tf we2_108 (.vf 105) (.tf we2_109 (.vf 111) (.tf we2_110 (.vf 117) (.tf we2_111 (.vf 123) (.tf we2_112 (.vf 129) (.tf we2_113 we2_474 we2_475))))))))))),
  (2357743447, 381, (.tf we2_68 we2_2 (.tf we2_69 we2_3 (.tf we2_70 we2_4 (.tf we2_71 we2_5 (.tf we2_72 (.vf 105) (.tf we2_73 (.vf 111) (.tf we2_74 (.vf 117) (.tf we2_75 (.vf 123) (.tf we2_76 (.vf 129) (.tf we2_77 we2_474 (.tf we2_78 we2_475 we2_476)))))))))))),
  (282831141, 382, (.tf we2_81 we2_2 (.tf we2_82 we2_3 (.tf we2_83 we2_4 (.tf we2_84 we2_5 (.tf we2_85 (.vf 105) (.tf we2_86 (.vf 111) (.tf we2_87 (.vf 117) (.tf we2_88 (.vf 123) (.tf we2_89 (.vf 129) (.tf we2_90 we2_474 (.tf we2_91 we2_475 we2_476)))))))))))),
  (1965510891, 383, (.tf we2_198 we2_2 (.tf we2_199 we2_3 (.tf we2_200 we2_4 (.tf we2_201 we2_5 (.tf we2_202 (.vf 105) (.tf we2_203 (.vf 111) (.tf we2_204 (.vf 117) (.tf we2_205 (.vf 123) (.tf we2_206 (.vf 129) (.tf we2_207 we2_474 (.tf we2_208 we2_475 (.tf we2_209 we2_476 we2_477))))))))))))),
  (2044679625, 384, (.tf we2_212 we2_2 (.tf we2_213 we2_3 (.tf we2_214 we2_4 (.tf we2_215 we2_5 (.tf we2_216 (.vf 105) (.tf we2_217 (.vf 111) (.tf we2_218 (.vf 117) (.tf we2_219 (.vf 123) (.tf we2_220 (.vf 129) (.tf we2_221 we2_474 (.tf we2_222 we2_475 (.tf we2_223 we2_476 we2_477))))))))))))),
  (1289127409, 385, (.tf we2_232 we2_2 (.tf we2_233 we2_3 (.tf we2_234 we2_4 (.tf we2_235 we2_5 (.tf we2_236 (.vf 105) (.tf we2_237 (.vf 111) (.tf we2_238 (.vf 117) (.tf we2_239 (.vf 123) (.tf we2_240 (.vf 129) (.tf we2_241 we2_474 (.tf we2_242 we2_475 (.tf we2_243 we2_476 (.tf we2_244 we2_477 we2_478)))))))))))))),
  (3522377183, 386, (.tf we2_247 we2_2 (.tf we2_248 we2_3 (.tf we2_249 we2_4 (.tf we2_250 we2_5 (.tf we2_251 (.vf 105) (.tf we2_252 (.vf 111) (.tf we2_253 (.vf 117) (.tf we2_254 (.vf 123) (.tf we2_255 (.vf 129) (.tf we2_256 we2_474 (.tf we2_257 we2_475 (.tf we2_258 we2_476 (.tf we2_259 we2_477 we2_478)))))))))))))),
  (328593001, 387, (.tf we2_268 we2_2 (.tf we2_269 we2_3 (.tf we2_270 we2_4 (.tf we2_271 we2_5 (.tf we2_272 (.vf 105) (.tf we2_273 (.vf 111) (.tf we2_274 (.vf 117) (.tf we2_275 (.vf 123) (.tf we2_276 (.vf 129) (.tf we2_277 we2_474 (.tf we2_278 we2_475 (.tf we2_279 we2_476 (.tf we2_280 we2_477 (.tf we2_281 we2_478 we2_479))))))))))))))),
  (420956524, 388, (.tf we2_284 we2_2 (.tf we2_285 we2_3 (.tf we2_286 we2_4 (.tf we2_287 we2_5 (.tf we2_288 (.vf 105) (.tf we2_289 (.vf 111) (.tf we2_290 (.vf 117) (.tf we2_291 (.vf 123) (.tf we2_292 (.vf 129) (.tf we2_293 we2_474 (.tf we2_294 we2_475 (.tf we2_295 we2_476 (.tf we2_296 we2_477 (.tf we2_297 we2_478 we2_479))))))))))))))),
  (3378874958, 389, (.tf we2_310 we2_2 (.tf we2_311 we2_3 (.tf we2_312 we2_4 (.tf we2_313 we2_5 (.tf we2_314 (.vf 105) (.tf we2_315 (.vf 111) (.tf we2_316 (.vf 117) (.tf we2_317 (.vf 123) (.tf we2_318 (.vf 129) (.tf we2_319 we2_474 (.tf we2_320 we2_475 (.tf we2_321 we2_476 (.tf we2_322 we2_477 (.tf we2_323 we2_478 (.tf we2_324 we2_479 we2_480)))))))))))))))),
  (1330352230, 390, (.tf we2_327 we2_2 (.tf we2_328 we2_3 (.tf we2_329 we2_4 (.tf we2_330 we2_5 (.tf we2_331 (.vf 105) (.tf we2_332 (.vf 111) (.tf we2_333 (.vf 117) (.tf we2_334 (.vf 123) (.tf we2_335 (.vf 129) (.tf we2_336 we2_474 (.tf we2_337 we2_475 (.tf we2_338 we2_476 (.tf we2_339 we2_477 (.tf we2_340 we2_478 (.tf we2_341 we2_479 we2_480)))))))))))))))),
  (1056711850, 391, (.tf we2_115 we2_2 (.tf we2_116 we2_3 (.tf we2_117 we2_4 (.tf we2_118 we2_5 (.tf we2_119 (.vf 105) (.tf we2_120 (.vf 111) (.tf we2_121 (.vf 117) (.tf we2_122 (.vf 123) (.tf we2_123 we2_226 we2_481)))))))))),
  (3263572046, 392, (.tf we2_125 we2_2 (.tf we2_126 we2_3 (.tf we2_127 we2_4 (.tf we2_128 we2_5 (.tf we2_129 (.vf 105) (.tf we2_130 (.vf 111) (.tf we2_131 (.vf 117) (.tf we2_132 (.vf 123) (.tf we2_133 we2_226 we2_481)))))))))),
  (2760951014, 393, (.tf we2_93 we2_2 (.tf we2_94 we2_3 (.tf we2_95 we2_4 (.tf we2_96 we2_5 (.tf we2_97 (.vf 105) (.tf we2_98 (.vf 111) (.tf we2_99 (.vf 117) (.tf we2_100 (.vf 123) (.tf we2_101 we2_226 (.tf we2_102 we2_481 we2_482))))))))))),
  (2826924959, 394, (.tf we2_104 we2_2 (.tf we2_105 we2_3 (.tf we2_106 we2_4 (.tf we2_107 we2_5 (.tf we2_108 (.vf 105) (.tf we2_109 (.vf 111) (.tf we2_110 (.vf 117) (.tf we2_111 (.vf 123) (.tf we2_112 we2_226 (.tf we2_113 we2_481 we2_482))))))))))),
  (1157500892, 395, (.tf we2_68 we2_2 (.tf we2_69 we2_3 (.tf we2_70 we2_4 (.tf we2_71 we2_5 (.tf we2_72 (.vf 105) (.tf we2_73 (.vf 111) (.tf we2_74 (.vf 117) (.tf we2_75 (.vf 123) (.tf we2_76 we2_226 (.tf we2_77 we2_481 (.tf we2_78 we2_482 we2_483)))))))))))),
  (3377555877, 396, (.tf we2_81 we2_2 (.tf we2_82 we2_3 (.tf we2_83 we2_4 (.tf we2_84 we2_5 (.tf we2_85 (.vf 105) (.tf we2_86 (.vf 111) (.tf we2_87 (.vf 117) (.tf we2_88 (.vf 123) (.tf we2_89 we2_226 (.tf we2_90 we2_481 (.tf we2_91 we2_482 we2_483)))))))))))),
  (3564867135, 397, (.tf we2_198 we2_2 (.tf we2_199 we2_3 (.tf we2_200 we2_4 (.tf we2_201 we2_5 (.tf we2_202 (.vf 105) (.tf we2_203 (.vf 111) (.tf we2_204 (.vf 117) (.tf we2_205 (.vf 123) (.tf we2_206 we2_226 (.tf we2_207 we2_481 (.tf we2_208 we2_482 (.tf we2_209 we2_483 we2_484))))))))))))),
  (3644035869, 398, (.tf we2_212 we2_2 (.tf we2_213 we2_3 (.tf we2_214 we2_4 (.tf we2_215 we2_5 (.tf we2_216 (.vf 105) (.tf we2_217 (.vf 111) (.tf we2_218 (.vf 117) (.tf we2_219 (.vf 123) (.tf we2_220 we2_226 (.tf we2_221 we2_481 (.tf we2_222 we2_482 (.tf we2_223 we2_483 we2_484))))))))))))),
  (1393115161, 399, (.tf we2_232 we2_2 (.tf we2_233 we2_3 (.tf we2_234 we2_4 (.tf we2_235 we2_5 (.tf we2_236 (.vf 105) (.tf we2_237 (.vf 111) (.tf we2_238 (.vf 117) (.tf we2_239 (.vf 123) (.tf we2_240 we2_226 (.tf we2_241 we2_481 (.tf we2_242 we2_482 (.tf we2_243 we2_483 (.tf we2_244 we2_484 we2_485)))))))))))))),
  (3626364935, 400, (.tf we2_247 we2_2 (.tf we2_248 we2_3 (.tf we2_249 we2_4 (.tf we2_250 we2_5 (.tf we2_251 (.vf 105) (.tf we2_252 (.vf 111) (.tf we2_253 (.vf 117) (.tf we2_254 (.vf 123) (.tf we2_255 we2_226 (.tf we2_256 we2_481 (.tf we2_257 we2_482 (.tf we2_258 we2_483 (.tf we2_259 we2_484 we2_485)))))))))))))),
  (3232179552, 401, (.tf we2_268 we2_2 (.tf we2_269 we2_3 (.tf we2_270 we2_4 (.tf we2_271 we2_5 (.tf we2_272 (.vf 105) (.tf we2_273 (.vf 111) (.tf we2_274 (.vf 117) (.tf we2_275 (.vf 123) (.tf we2_276 we2_226 (.tf we2_277 we2_481 (.tf we2_278 we2_482 (.tf we2_279 we2_483 (.tf we2_280 we2_484 (.tf we2_281 we2_485 we2_486))))))))))))))),
  (3324543075, 402, (.tf we2_284 we2_2 (.tf we2_285 we2_3 (.tf we2_286 we2_4 (.tf we2_287 we2_5 (.tf we2_288 (.vf 105) (.tf we2_289 (.vf 111) (.tf we2_290 (.vf 117) (.tf we2_291 (.vf 123) (.tf we2_292 we2_226 (.tf we2_293 we2_481 (.tf we2_294 we2_482 (.tf we2_295 we2_483 (.tf we2_296 we2_484 (.tf we2_297 we2_485 we2_486))))))))))))))),
  (1670040165, 403, (.tf we2_115 we2_2 (.tf we2_116 we2_3 (.tf we2_117 we2_4 (.tf we2_118 we2_5 (.tf we2_119 (.vf 105) (.tf we2_120 (.vf 111) (.tf we2_121 (.vf 117) (.tf we2_122 we2_227 (.tf we2_123 we2_263 we2_487)))))))))),
  (3876900361, 404, (.tf we2_125 we2_2 (.tf we2_126 we2_3 (.tf we2_127 we2_4 (.tf we2_128 we2_5 (.tf we2_129 (.vf 105) (.tf we2_130 (.vf 111) (.tf we2_131 (.vf 117) (.tf we2_132 we2_227 (.tf we2_133 we2_263 we2_487)))))))))),
  (1443833281, 405, (.tf we2_93 we2_2 (.tf we2_94 we2_3 (.tf we2_95 we2_4 (.tf we2_96 we2_5 (.tf we2_97 (.vf 105) (.tf we2_98 (.vf 111) (.tf we2_99 (.vf 117) (.tf we2_100 we2_227 (.tf we2_101 we2_263 (.tf we2_102 we2_487 we2_488))))))))))),
  (1509807226, 406, (.tf we2_104 we2_2 (.tf we2_105 we2_3 (.tf we2_106 we2_4 (.tf we2_107 we2_5 (.tf we2_108 (.vf 105) (.tf we2_109 (.vf 111) (.tf we2_110 (.vf 117) (.tf we2_111 we2_227 (.tf we2_112 we2_263 (.tf we2_113 we2_487 we2_488))))))))))),
  (4080739540, 407, (.tf we2_68 we2_2 (.tf we2_69 we2_3 (.tf we2_70 we2_4 (.tf we2_71 we2_5 (.tf we2_72 (.vf 105) (.tf we2_73 (.vf 111) (.tf we2_74 (.vf 117) (.tf we2_75 we2_227 (.tf we2_76 we2_263 (.tf we2_77 we2_487 (.tf we2_78 we2_488 we2_489)))))))))))),
  (2005827234, 408, (.tf we2_81 we2_2 (.tf we2_82 we2_3 (.tf we2_83 we2_4 (.tf we2_84 we2_5 (.tf we2_85 (.vf 105) (.tf we2_86 (.vf 111) (.tf we2_87 (.vf 117) (.tf we2_88 we2_227 (.tf we2_89 we2_263 (.tf we2_90 we2_487 (.tf we2_91 we2_488 we2_489)))))))))))),
  (2138527582, 409, (.tf we2_198 we2_2 (.tf we2_199 we2_3 (.tf we2_200 we2_4 (.tf we2_201 we2_5 (.tf we2_202 (.vf 105) (.tf we2_203 (.vf 111) (.tf we2_204 (.vf 117) (.tf we2_205 we2_227 (.tf we2_206 we2_263 (.tf we2_207 we2_487 (.tf we2_208 we2_488 (.tf we2_209 we2_489 we2_490))))))))))))),
  (2217696316, 410, (.tf we2_212 we2_2 (.tf we2_213 we2_3 (.tf we2_214 we2_4 (.tf we2_215 we2_5 (.tf we2_216 (.vf 105) (.tf we2_217 (.vf 111) (.tf we2_218 (.vf 117) (.tf we2_219 we2_227 (.tf we2_220 we2_263 (.tf we2_221 we2_487 (.tf we2_222 we2_488 (.tf we2_223 we2_489 we2_490))))))))))))),
  (4207131989, 411, (.tf we2_232 we2_2 (.tf we2_233 we2_3 (.tf we2_234 we2_4 (.tf we2_235 we2_5 (.tf we2_236 (.vf 105) (.tf we2_237 (.vf 111) (.tf we2_238 (.vf 117) (.tf we2_239 we2_227 (.tf we2_240 we2_263 (.tf we2_241 we2_487 (.tf we2_242 we2_488 (.tf we2_243 we2_489 (.tf we2_244 we2_490 we2_491)))))))))))))),
  (2145414472, 412, (.tf we2_247 we2_2 (.tf we2_248 we2_3 (.tf we2_249 we2_4 (.tf we2_250 we2_5 (.tf we2_251 (.vf 105) (.tf we2_252 (.vf 111) (.tf we2_253 (.vf 117) (.tf we2_254 we2_227 (.tf we2_255 we2_263 (.tf we2_256 we2_487 (.tf we2_257 we2_488 (.tf we2_258 we2_489 (.tf we2_259 we2_490 we2_491)))))))))))))),
  (2873220016, 413, (.tf we2_115 we2_2 (.tf we2_116 we2_3 (.tf we2_117 we2_4 (.tf we2_118 we2_5 (.tf we2_119 (.vf 105) (.tf we2_120 (.vf 111) (.tf we2_121 we2_228 (.tf we2_122 we2_264 (.tf we2_123 we2_306 we2_492)))))))))),
  (785112921, 414, (.tf we2_125 we2_2 (.tf we2_126 we2_3 (.tf we2_127 we2_4 (.tf we2_128 we2_5 (.tf we2_129 (.vf 105) (.tf we2_130 (.vf 111) (.tf we2_131 we2_228 (.tf we2_132 we2_264 (.tf we2_133 we2_306 we2_492)))))))))),
  (1662779714, 415, (.tf we2_93 we2_2 (.tf we2_94 we2_3 (.tf we2_95 we2_4 (.tf we2_96 we2_5 (.tf we2_97 (.vf 105) (.tf we2_98 (.vf 111) (.tf we2_99 we2_228 (.tf we2_100 we2_264 (.tf we2_101 we2_306 (.tf we2_102 we2_492 we2_493))))))))))),
  (1728753659, 416, (.tf we2_104 we2_2 (.tf we2_105 we2_3 (.tf we2_106 we2_4 (.tf we2_107 we2_5 (.tf we2_108 (.vf 105) (.tf we2_109 (.vf 111) (.tf we2_110 we2_228 (.tf we2_111 we2_264 (.tf we2_112 we2_306 (.tf we2_113 we2_492 we2_493))))))))))),
  (1390865354, 417, (.tf we2_68 we2_2 (.tf we2_69 we2_3 (.tf we2_70 we2_4 (.tf we2_71 we2_5 (.tf we2_72 (.vf 105) (.tf we2_73 (.vf 111) (.tf we2_74 we2_228 (.tf we2_75 we2_264 (.tf we2_76 we2_306 (.tf we2_77 we2_492 (.tf we2_78 we2_493 we2_494)))))))))))),
  (3610920339, 418, (.tf we2_81 we2_2 (.tf we2_82 we2_3 (.tf we2_83 we2_4 (.tf we2_84 we2_5 (.tf we2_85 (.vf 105) (.tf we2_86 (.vf 111) (.tf we2_87 we2_228 (.tf we2_88 we2_264 (.tf we2_89 we2_306 (.tf we2_90 we2_492 (.tf we2_91 we2_493 we2_494)))))))))))),
  (834800068, 419, (.tf we2_198 we2_2 (.tf we2_199 we2_3 (.tf we2_200 we2_4 (.tf we2_201 we2_5 (.tf we2_202 (.vf 105) (.tf we2_203 (.vf 111) (.tf we2_204 we2_228 (.tf we2_205 we2_264 (.tf we2_206 we2_306 (.tf we2_207 we2_492 (.tf we2_208 we2_493 (.tf we2_209 we2_494 we2_495))))))))))))),
  (913968802, 420, (.tf we2_212 we2_2 (.tf we2_213 we2_3 (.tf we2_214 we2_4 (.tf we2_215 we2_5 (.tf we2_216 (.vf 105) (.tf we2_217 (.vf 111) (.tf we2_218 we2_228 (.tf we2_219 we2_264 (.tf we2_220 we2_306 (.tf we2_221 we2_492 (.tf we2_222 we2_493 (.tf we2_223 we2_494 we2_495))))))))))))),
  (1091662906, 421, (.tf we2_115 we2_2 (.tf we2_116 we2_3 (.tf we2_117 we2_4 (.tf we2_118 we2_5 (.tf we2_119 (.vf 105) (.tf we2_120 we2_229 (.tf we2_121 we2_265 (.tf we2_122 we2_307 (.tf we2_123 we2_354 we2_496)))))))))),
  (3298523102, 422, (.tf we2_125 we2_2 (.tf we2_126 we2_3 (.tf we2_127 we2_4 (.tf we2_128 we2_5 (.tf we2_129 (.vf 105) (.tf we2_130 we2_229 (.tf we2_131 we2_265 (.tf we2_132 we2_307 (.tf we2_133 we2_354 we2_496)))))))))),
  (647049163, 423, (.tf we2_93 we2_2 (.tf we2_94 we2_3 (.tf we2_95 we2_4 (.tf we2_96 we2_5 (.tf we2_97 (.vf 105) (.tf we2_98 we2_229 (.tf we2_99 we2_265 (.tf we2_100 we2_307 (.tf we2_101 we2_354 (.tf we2_102 we2_496 we2_497))))))))))),
  (713023108, 424, (.tf we2_104 we2_2 (.tf we2_105 we2_3 (.tf we2_106 we2_4 (.tf we2_107 we2_5 (.tf we2_108 (.vf 105) (.tf we2_109 we2_229 (.tf we2_110 we2_265 (.tf we2_111 we2_307 (.tf we2_112 we2_354 (.tf we2_113 we2_496 we2_497))))))))))),
  (3202039057, 425, (.tf we2_68 we2_2 (.tf we2_69 we2_3 (.tf we2_70 we2_4 (.tf we2_71 we2_5 (.tf we2_72 (.vf 105) (.tf we2_73 we2_229 (.tf we2_74 we2_265 (.tf we2_75 we2_307 (.tf we2_76 we2_354 (.tf we2_77 we2_496 (.tf we2_78 we2_497 we2_498)))))))))))),
  (1127126751, 426, (.tf we2_81 we2_2 (.tf we2_82 we2_3 (.tf we2_83 we2_4 (.tf we2_84 we2_5 (.tf we2_85 (.vf 105) (.tf we2_86 we2_229 (.tf we2_87 we2_265 (.tf we2_88 we2_307 (.tf we2_89 we2_354 (.tf we2_90 we2_496 (.tf we2_91 we2_497 we2_498)))))))))))),
  (1286104010, 427, (.tf we2_115 we2_2 (.tf we2_116 we2_3 (.tf we2_117 we2_4 (.tf we2_118 we2_5 (.tf we2_119 we2_230 (.tf we2_120 we2_266 (.tf we2_121 we2_308 (.tf we2_122 we2_355 (.tf we2_123 we2_408 we2_499)))))))))),
  (3492964206, 428, (.tf we2_125 we2_2 (.tf we2_126 we2_3 (.tf we2_127 we2_4 (.tf we2_128 we2_5 (.tf we2_129 we2_230 (.tf we2_130 we2_266 (.tf we2_131 we2_308 (.tf we2_132 we2_355 (.tf we2_133 we2_408 we2_499)))))))))),
  (3505742102, 429, (.tf we2_93 we2_2 (.tf we2_94 we2_3 (.tf we2_95 we2_4 (.tf we2_96 we2_5 (.tf we2_97 we2_230 (.tf we2_98 we2_266 (.tf we2_99 we2_308 (.tf we2_100 we2_355 (.tf we2_101 we2_408 (.tf we2_102 we2_499 we2_500))))))))))),
  (3571716047, 430, (.tf we2_104 we2_2 (.tf we2_105 we2_3 (.tf we2_106 we2_4 (.tf we2_107 we2_5 (.tf we2_108 we2_230 (.tf we2_109 we2_266 (.tf we2_110 we2_308 (.tf we2_111 we2_355 (.tf we2_112 we2_408 (.tf we2_113 we2_499 we2_500)))))))))))]
set_option maxRecDepth 1000000 in
set_option maxHeartbeats 100000000 in
theorem wG2 : tabGood 100 wN2 = true := by kernel_rfl
end Go.Proofs.Yticbgaflhiokgaa
