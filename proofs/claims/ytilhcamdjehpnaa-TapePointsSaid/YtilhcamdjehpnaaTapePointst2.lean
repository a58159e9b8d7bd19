/-
  'TapePoints': what names stand for, where the first rest is 2.
-/
import Derived.Test.YtilhcamdjehpnaaM3q
namespace Go.Proofs.Ytilhcamdjehpnaa
open Go.RowKit Ex
def ve2_0 : E := (.ib .quo .i64 (.vi 0) (.li 3))
def ve2_1 : E := (.ai 9 0 (.ci (.ib .add .i64 ve2_0 (.li 0)) (.ci (.li 3) .n0)))
def ve2_2 : E := (.ib .sub .i64 (.ib .sub .i64 (.li 3) ve2_1) (.li 1))
def ve2_3 : E := (.fb .quo (.i2f (.ib .sub .i64 (.ai 9 0 (.ci (.ti (.ic .lss (.li 1) (.vl 3)) (.at 3 1) (.li 1)) (.ci (.li 65) .n0))) (.li 32))) (.lf 4620693217682128896))
def ve2_4 : E := (.fb .quo (.i2f (.ib .sub .i64 (.ai 9 0 (.ci (.ti (.ic .lss (.li 2) (.vl 3)) (.at 3 2) (.li 2)) (.ci (.li 65) .n0))) (.li 32))) (.lf 4620693217682128896))
def ve2_5 : E := (.fb .quo (.i2f (.ib .sub .i64 (.ai 9 0 (.ci (.vi 0) (.ci (.li 17) .n0))) (.li 8))) (.lf 4616189618054758400))
def ve2_6 : E := (.ai 9 0 (.ci (.ib .add .i64 ve2_0 (.li 1)) (.ci (.li 3) .n0)))
def ve2_7 : E := (.ib .sub .i64 (.ib .sub .i64 (.li 3) ve2_6) (.li 1))
def ve2_8 : E := (.ai 9 0 (.ci (.ib .add .i64 ve2_0 (.li 2)) (.ci (.li 3) .n0)))
def ve2_9 : E := (.ib .sub .i64 (.ib .sub .i64 (.li 3) ve2_8) (.li 1))
def ve2_10 : E := (.ic .eql (.ai 9 0 (.ci (.at 1 0) (.ci (.li 11) .n0))) (.li 0))
def ve2_11 : E := (.ti ve2_10 (.li 0) (.ai 9 0 (.ci (.ib .quo .i64 (.at 1 0) (.li 4)) (.ci (.li 4) .n0))))
def ve2_12 : E := (.fb .quo (.i2f (.ib .sub .i64 (.ai 9 0 (.ci (.ti (.ic .lss (.li 0) (.vl 3)) (.at 3 0) (.li 0)) (.ci (.li 65) .n0))) (.li 32))) (.lf 4620693217682128896))
def ve2_13 : E := (.ti ve2_10 (.li 0) (.ai 9 0 (.ci (.ib .quo .i64 (.at 1 0) (.li 40)) (.ci (.li 4) .n0))))
def ve2_14 : E := (.ib .add .i64 (.li 2) (.ai 9 0 (.ci (.at 1 0) (.ci (.li 3) .n0))))
def ve2_15 : E := (.ic .eql ve2_14 (.li 3))
def ve2_16 : E := (.ic .eql ve2_14 (.li 2))
def ve2_17 : E := (.ic .eql (.ai 9 0 (.ci (.at 1 0) (.ci (.li 7) .n0))) (.li 0))
def ve2_18 : E := (.tf ve2_10 (.fb .quo (.i2f (.ib .sub .i64 (.ai 9 0 (.ci (.ib .quo .i64 (.at 1 0) (.li 11)) (.ci (.li 33) .n0))) (.li 16))) (.lf 4620693217682128896)) (.lf 0))
def ve2_19 : E := (.ib .sub .i64 (.ib .sub .i64 (.li 4) ve2_1) (.li 2))
def ve2_20 : E := (.ic .eql ve2_19 (.li 0))
def ve2_21 : E := (.ic .eql ve2_19 (.li 1))
def ve2_22 : E := (.ib .sub .i64 (.ib .sub .i64 (.li 4) ve2_6) (.li 2))
def ve2_23 : E := (.ic .eql ve2_22 (.li 0))
def ve2_24 : E := (.ic .eql ve2_22 (.li 1))
def ve2_25 : E := (.ib .sub .i64 (.ib .sub .i64 (.li 4) ve2_8) (.li 2))
def ve2_26 : E := (.ic .eql ve2_25 (.li 0))
def ve2_27 : E := (.ic .eql ve2_25 (.li 1))
def ve2_28 : E := (.ic .eql (.ai 9 0 (.ci (.at 1 1) (.ci (.li 11) .n0))) (.li 0))
def ve2_29 : E := (.ti ve2_28 (.li 0) (.ai 9 0 (.ci (.ib .quo .i64 (.at 1 1) (.li 4)) (.ci (.li 5) .n0))))
def ve2_30 : E := (.ic .eql ve2_29 (.li 0))
def ve2_31 : E := (.ic .eql ve2_29 (.li 1))
def ve2_32 : E := (.ic .eql ve2_29 (.li 2))
def ve2_33 : E := (.ic .eql ve2_29 (.li 3))
def ve2_34 : E := (.ti ve2_28 (.li 0) (.ai 9 0 (.ci (.ib .quo .i64 (.at 1 1) (.li 40)) (.ci (.li 5) .n0))))
def ve2_35 : E := (.ic .eql ve2_34 (.li 0))
def ve2_36 : E := (.ic .eql ve2_34 (.li 1))
def ve2_37 : E := (.ic .eql ve2_34 (.li 2))
def ve2_38 : E := (.ic .eql ve2_34 (.li 3))
def ve2_39 : E := (.ib .add .i64 (.li 2) (.ai 9 0 (.ci (.at 1 1) (.ci (.li 3) .n0))))
def ve2_40 : E := (.ic .eql ve2_39 (.li 3))
def ve2_41 : E := (.ic .eql ve2_39 (.li 2))
def ve2_42 : E := (.ic .eql (.ai 9 0 (.ci (.at 1 1) (.ci (.li 7) .n0))) (.li 0))
def ve2_43 : E := (.tf ve2_28 (.fb .quo (.i2f (.ib .sub .i64 (.ai 9 0 (.ci (.ib .quo .i64 (.at 1 1) (.li 11)) (.ci (.li 33) .n0))) (.li 16))) (.lf 4620693217682128896)) (.lf 0))
def ve2_44 : E := (.ib .sub .i64 (.ib .sub .i64 (.li 5) ve2_1) (.li 3))
def ve2_45 : E := (.ic .eql ve2_44 (.li 0))
def ve2_46 : E := (.ic .eql ve2_44 (.li 1))
def ve2_47 : E := (.ib .sub .i64 (.ib .sub .i64 (.li 5) ve2_6) (.li 3))
def ve2_48 : E := (.ic .eql ve2_47 (.li 0))
def ve2_49 : E := (.ic .eql ve2_47 (.li 1))
def ve2_50 : E := (.ib .sub .i64 (.ib .sub .i64 (.li 5) ve2_8) (.li 3))
def ve2_51 : E := (.ic .eql ve2_50 (.li 0))
def ve2_52 : E := (.ic .eql ve2_50 (.li 1))
def ve2_53 : E := (.ic .eql (.ai 9 0 (.ci (.at 1 2) (.ci (.li 11) .n0))) (.li 0))
def ve2_54 : E := (.ti ve2_53 (.li 0) (.ai 9 0 (.ci (.ib .quo .i64 (.at 1 2) (.li 4)) (.ci (.li 6) .n0))))
def ve2_55 : E := (.ic .eql ve2_54 (.li 0))
def ve2_56 : E := (.ic .eql ve2_54 (.li 1))
def ve2_57 : E := (.ic .eql ve2_54 (.li 2))
def ve2_58 : E := (.ic .eql ve2_54 (.li 3))
def ve2_59 : E := (.ic .eql ve2_54 (.li 4))
def ve2_60 : E := (.ti ve2_53 (.li 0) (.ai 9 0 (.ci (.ib .quo .i64 (.at 1 2) (.li 40)) (.ci (.li 6) .n0))))
def ve2_61 : E := (.ic .eql ve2_60 (.li 0))
def ve2_62 : E := (.ic .eql ve2_60 (.li 1))
def ve2_63 : E := (.ic .eql ve2_60 (.li 2))
def ve2_64 : E := (.ic .eql ve2_60 (.li 3))
def ve2_65 : E := (.ic .eql ve2_60 (.li 4))
def ve2_66 : E := (.ib .add .i64 (.li 2) (.ai 9 0 (.ci (.at 1 2) (.ci (.li 3) .n0))))
def ve2_67 : E := (.ic .eql ve2_66 (.li 3))
def ve2_68 : E := (.ic .eql ve2_66 (.li 2))
def ve2_69 : E := (.ic .eql (.ai 9 0 (.ci (.at 1 2) (.ci (.li 7) .n0))) (.li 0))
def ve2_70 : E := (.tf ve2_53 (.fb .quo (.i2f (.ib .sub .i64 (.ai 9 0 (.ci (.ib .quo .i64 (.at 1 2) (.li 11)) (.ci (.li 33) .n0))) (.li 16))) (.lf 4620693217682128896)) (.lf 0))
def ve2_71 : E := (.ib .sub .i64 (.ib .sub .i64 (.li 6) ve2_1) (.li 4))
def ve2_72 : E := (.ic .eql ve2_71 (.li 0))
def ve2_73 : E := (.ic .eql ve2_71 (.li 1))
def ve2_74 : E := (.ib .sub .i64 (.ib .sub .i64 (.li 6) ve2_6) (.li 4))
def ve2_75 : E := (.ic .eql ve2_74 (.li 0))
def ve2_76 : E := (.ic .eql ve2_74 (.li 1))
def ve2_77 : E := (.ib .sub .i64 (.ib .sub .i64 (.li 6) ve2_8) (.li 4))
def ve2_78 : E := (.ic .eql ve2_77 (.li 0))
def ve2_79 : E := (.ic .eql ve2_77 (.li 1))
def ve2_80 : E := (.ic .eql (.ai 9 0 (.ci (.at 1 3) (.ci (.li 11) .n0))) (.li 0))
def ve2_81 : E := (.ti ve2_80 (.li 0) (.ai 9 0 (.ci (.ib .quo .i64 (.at 1 3) (.li 4)) (.ci (.li 7) .n0))))
def ve2_82 : E := (.ic .eql ve2_81 (.li 0))
def ve2_83 : E := (.ic .eql ve2_81 (.li 1))
def ve2_84 : E := (.ic .eql ve2_81 (.li 2))
def ve2_85 : E := (.ic .eql ve2_81 (.li 3))
def ve2_86 : E := (.ic .eql ve2_81 (.li 4))
def ve2_87 : E := (.ic .eql ve2_81 (.li 5))
def ve2_88 : E := (.ti ve2_80 (.li 0) (.ai 9 0 (.ci (.ib .quo .i64 (.at 1 3) (.li 40)) (.ci (.li 7) .n0))))
def ve2_89 : E := (.ic .eql ve2_88 (.li 0))
def ve2_90 : E := (.ic .eql ve2_88 (.li 1))
def ve2_91 : E := (.ic .eql ve2_88 (.li 2))
def ve2_92 : E := (.ic .eql ve2_88 (.li 3))
def ve2_93 : E := (.ic .eql ve2_88 (.li 4))
def ve2_94 : E := (.ic .eql ve2_88 (.li 5))
def ve2_95 : E := (.ib .add .i64 (.li 2) (.ai 9 0 (.ci (.at 1 3) (.ci (.li 3) .n0))))
def ve2_96 : E := (.ic .eql ve2_95 (.li 3))
def ve2_97 : E := (.ic .eql ve2_95 (.li 2))
def ve2_98 : E := (.ic .eql (.ai 9 0 (.ci (.at 1 3) (.ci (.li 7) .n0))) (.li 0))
def ve2_99 : E := (.tf ve2_80 (.fb .quo (.i2f (.ib .sub .i64 (.ai 9 0 (.ci (.ib .quo .i64 (.at 1 3) (.li 11)) (.ci (.li 33) .n0))) (.li 16))) (.lf 4620693217682128896)) (.lf 0))
def ve2_100 : E := (.ib .sub .i64 (.ib .sub .i64 (.li 7) ve2_1) (.li 5))
def ve2_101 : E := (.ic .eql ve2_100 (.li 0))
def ve2_102 : E := (.ic .eql ve2_100 (.li 1))
def ve2_103 : E := (.ib .sub .i64 (.ib .sub .i64 (.li 7) ve2_6) (.li 5))
def ve2_104 : E := (.ic .eql ve2_103 (.li 0))
def ve2_105 : E := (.ic .eql ve2_103 (.li 1))
def ve2_106 : E := (.ib .sub .i64 (.ib .sub .i64 (.li 7) ve2_8) (.li 5))
def ve2_107 : E := (.ic .eql ve2_106 (.li 0))
def ve2_108 : E := (.ic .eql ve2_106 (.li 1))
def ve2_109 : E := (.ic .eql (.ai 9 0 (.ci (.at 1 4) (.ci (.li 11) .n0))) (.li 0))
def ve2_110 : E := (.ti ve2_109 (.li 0) (.ai 9 0 (.ci (.ib .quo .i64 (.at 1 4) (.li 4)) (.ci (.li 8) .n0))))
def ve2_111 : E := (.ic .eql ve2_110 (.li 0))
def ve2_112 : E := (.ic .eql ve2_110 (.li 1))
def ve2_113 : E := (.ic .eql ve2_110 (.li 2))
def ve2_114 : E := (.ic .eql ve2_110 (.li 3))
def ve2_115 : E := (.ic .eql ve2_110 (.li 4))
def ve2_116 : E := (.ic .eql ve2_110 (.li 5))
def ve2_117 : E := (.ic .eql ve2_110 (.li 6))
def ve2_118 : E := (.ti ve2_109 (.li 0) (.ai 9 0 (.ci (.ib .quo .i64 (.at 1 4) (.li 40)) (.ci (.li 8) .n0))))
def ve2_119 : E := (.ic .eql ve2_118 (.li 0))
def ve2_120 : E := (.ic .eql ve2_118 (.li 1))
def ve2_121 : E := (.ic .eql ve2_118 (.li 2))
def ve2_122 : E := (.ic .eql ve2_118 (.li 3))
def ve2_123 : E := (.ic .eql ve2_118 (.li 4))
def ve2_124 : E := (.ic .eql ve2_118 (.li 5))
def ve2_125 : E := (.ic .eql ve2_118 (.li 6))
def ve2_126 : E := (.ib .add .i64 (.li 2) (.ai 9 0 (.ci (.at 1 4) (.ci (.li 3) .n0))))
def ve2_127 : E := (.ic .eql ve2_126 (.li 3))
def ve2_128 : E := (.ic .eql ve2_126 (.li 2))
def ve2_129 : E := (.ic .eql (.ai 9 0 (.ci (.at 1 4) (.ci (.li 7) .n0))) (.li 0))
def ve2_130 : E := (.tf ve2_109 (.fb .quo (.i2f (.ib .sub .i64 (.ai 9 0 (.ci (.ib .quo .i64 (.at 1 4) (.li 11)) (.ci (.li 33) .n0))) (.li 16))) (.lf 4620693217682128896)) (.lf 0))
def ve2_131 : E := (.ib .sub .i64 (.ib .sub .i64 (.li 8) ve2_1) (.li 6))
def ve2_132 : E := (.ic .eql ve2_131 (.li 0))
def ve2_133 : E := (.ic .eql ve2_131 (.li 1))
def ve2_134 : E := (.ib .sub .i64 (.ib .sub .i64 (.li 8) ve2_6) (.li 6))
def ve2_135 : E := (.ic .eql ve2_134 (.li 0))
def ve2_136 : E := (.ic .eql ve2_134 (.li 1))
def ve2_137 : E := (.ib .sub .i64 (.ib .sub .i64 (.li 8) ve2_8) (.li 6))
def ve2_138 : E := (.ic .eql ve2_137 (.li 0))
def ve2_139 : E := (.ic .eql ve2_137 (.li 1))
def ve2_140 : E := (.ic .eql (.ai 9 0 (.ci (.at 1 5) (.ci (.li 11) .n0))) (.li 0))
def ve2_141 : E := (.ti ve2_140 (.li 0) (.ai 9 0 (.ci (.ib .quo .i64 (.at 1 5) (.li 4)) (.ci (.li 9) .n0))))
def ve2_142 : E := (.ic .eql ve2_141 (.li 0))
def ve2_143 : E := (.ic .eql ve2_141 (.li 1))
def ve2_144 : E := (.ic .eql ve2_141 (.li 2))
def ve2_145 : E := (.ic .eql ve2_141 (.li 3))
def ve2_146 : E := (.ic .eql ve2_141 (.li 4))
def ve2_147 : E := (.ic .eql ve2_141 (.li 5))
def ve2_148 : E := (.ic .eql ve2_141 (.li 6))
def ve2_149 : E := (.ic .eql ve2_141 (.li 7))
def ve2_150 : E := (.ti ve2_140 (.li 0) (.ai 9 0 (.ci (.ib .quo .i64 (.at 1 5) (.li 40)) (.ci (.li 9) .n0))))
def ve2_151 : E := (.ic .eql ve2_150 (.li 0))
def ve2_152 : E := (.ic .eql ve2_150 (.li 1))
def ve2_153 : E := (.ic .eql ve2_150 (.li 2))
def ve2_154 : E := (.ic .eql ve2_150 (.li 3))
def ve2_155 : E := (.ic .eql ve2_150 (.li 4))
def ve2_156 : E := (.ic .eql ve2_150 (.li 5))
def ve2_157 : E := (.ic .eql ve2_150 (.li 6))
def ve2_158 : E := (.ic .eql ve2_150 (.li 7))
def ve2_159 : E := (.ib .add .i64 (.li 2) (.ai 9 0 (.ci (.at 1 5) (.ci (.li 3) .n0))))
def ve2_160 : E := (.ic .eql ve2_159 (.li 3))
def ve2_161 : E := (.ic .eql ve2_159 (.li 2))
def ve2_162 : E := (.ic .eql (.ai 9 0 (.ci (.at 1 5) (.ci (.li 7) .n0))) (.li 0))
def ve2_163 : E := (.tf ve2_140 (.fb .quo (.i2f (.ib .sub .i64 (.ai 9 0 (.ci (.ib .quo .i64 (.at 1 5) (.li 11)) (.ci (.li 33) .n0))) (.li 16))) (.lf 4620693217682128896)) (.lf 0))
def ve2_164 : E := (.ib .sub .i64 (.ib .sub .i64 (.li 9) ve2_1) (.li 7))
def ve2_165 : E := (.ic .eql ve2_164 (.li 0))
def ve2_166 : E := (.ic .eql ve2_164 (.li 1))
def ve2_167 : E := (.ib .sub .i64 (.ib .sub .i64 (.li 9) ve2_6) (.li 7))
def ve2_168 : E := (.ic .eql ve2_167 (.li 0))
def ve2_169 : E := (.ic .eql ve2_167 (.li 1))
def ve2_170 : E := (.ib .sub .i64 (.ib .sub .i64 (.li 9) ve2_8) (.li 7))
def ve2_171 : E := (.ic .eql ve2_170 (.li 0))
def ve2_172 : E := (.ic .eql ve2_170 (.li 1))
def ve2_173 : E := (.ic .eql (.ai 9 0 (.ci (.at 1 6) (.ci (.li 11) .n0))) (.li 0))
def ve2_174 : E := (.ti ve2_173 (.li 0) (.ai 9 0 (.ci (.ib .quo .i64 (.at 1 6) (.li 4)) (.ci (.li 10) .n0))))
def ve2_175 : E := (.ic .eql ve2_174 (.li 0))
def ve2_176 : E := (.ic .eql ve2_174 (.li 1))
def ve2_177 : E := (.ic .eql ve2_174 (.li 2))
def ve2_178 : E := (.ic .eql ve2_174 (.li 3))
def ve2_179 : E := (.ic .eql ve2_174 (.li 4))
def ve2_180 : E := (.ic .eql ve2_174 (.li 5))
def ve2_181 : E := (.ic .eql ve2_174 (.li 6))
def ve2_182 : E := (.ic .eql ve2_174 (.li 7))
def ve2_183 : E := (.ic .eql ve2_174 (.li 8))
def ve2_184 : E := (.ti ve2_173 (.li 0) (.ai 9 0 (.ci (.ib .quo .i64 (.at 1 6) (.li 40)) (.ci (.li 10) .n0))))
def ve2_185 : E := (.ic .eql ve2_184 (.li 0))
def ve2_186 : E := (.ic .eql ve2_184 (.li 1))
def ve2_187 : E := (.ic .eql ve2_184 (.li 2))
def ve2_188 : E := (.ic .eql ve2_184 (.li 3))
def ve2_189 : E := (.ic .eql ve2_184 (.li 4))
def ve2_190 : E := (.ic .eql ve2_184 (.li 5))
def ve2_191 : E := (.ic .eql ve2_184 (.li 6))
def ve2_192 : E := (.ic .eql ve2_184 (.li 7))
def ve2_193 : E := (.ic .eql ve2_184 (.li 8))
def ve2_194 : E := (.ib .add .i64 (.li 2) (.ai 9 0 (.ci (.at 1 6) (.ci (.li 3) .n0))))
def ve2_195 : E := (.ic .eql ve2_194 (.li 3))
def ve2_196 : E := (.ic .eql ve2_194 (.li 2))
def ve2_197 : E := (.ic .eql (.ai 9 0 (.ci (.at 1 6) (.ci (.li 7) .n0))) (.li 0))
def ve2_198 : E := (.tf ve2_173 (.fb .quo (.i2f (.ib .sub .i64 (.ai 9 0 (.ci (.ib .quo .i64 (.at 1 6) (.li 11)) (.ci (.li 33) .n0))) (.li 16))) (.lf 4620693217682128896)) (.lf 0))
def ve2_199 : E := (.ib .sub .i64 (.ib .sub .i64 (.li 10) ve2_1) (.li 8))
def ve2_200 : E := (.ic .eql ve2_199 (.li 0))
def ve2_201 : E := (.ic .eql ve2_199 (.li 1))
def ve2_202 : E := (.ib .sub .i64 (.ib .sub .i64 (.li 10) ve2_6) (.li 8))
def ve2_203 : E := (.ic .eql ve2_202 (.li 0))
def ve2_204 : E := (.ic .eql ve2_202 (.li 1))
def ve2_205 : E := (.ib .sub .i64 (.ib .sub .i64 (.li 10) ve2_8) (.li 8))
def ve2_206 : E := (.ic .eql ve2_205 (.li 0))
def ve2_207 : E := (.ic .eql ve2_205 (.li 1))
def ve2_208 : E := (.ic .eql (.ai 9 0 (.ci (.at 1 7) (.ci (.li 11) .n0))) (.li 0))
def ve2_209 : E := (.ti ve2_208 (.li 0) (.ai 9 0 (.ci (.ib .quo .i64 (.at 1 7) (.li 4)) (.ci (.li 11) .n0))))
def ve2_210 : E := (.ic .eql ve2_209 (.li 0))
def ve2_211 : E := (.ic .eql ve2_209 (.li 1))
def ve2_212 : E := (.ic .eql ve2_209 (.li 2))
def ve2_213 : E := (.ic .eql ve2_209 (.li 3))
def ve2_214 : E := (.ic .eql ve2_209 (.li 4))
def ve2_215 : E := (.ic .eql ve2_209 (.li 5))
def ve2_216 : E := (.ic .eql ve2_209 (.li 6))
def ve2_217 : E := (.ic .eql ve2_209 (.li 7))
def ve2_218 : E := (.ic .eql ve2_209 (.li 8))
def ve2_219 : E := (.ic .eql ve2_209 (.li 9))
def ve2_220 : E := (.ti ve2_208 (.li 0) (.ai 9 0 (.ci (.ib .quo .i64 (.at 1 7) (.li 40)) (.ci (.li 11) .n0))))
def ve2_221 : E := (.ic .eql ve2_220 (.li 0))
def ve2_222 : E := (.ic .eql ve2_220 (.li 1))
def ve2_223 : E := (.ic .eql ve2_220 (.li 2))
def ve2_224 : E := (.ic .eql ve2_220 (.li 3))
def ve2_225 : E := (.ic .eql ve2_220 (.li 4))
def ve2_226 : E := (.ic .eql ve2_220 (.li 5))
def ve2_227 : E := (.ic .eql ve2_220 (.li 6))
def ve2_228 : E := (.ic .eql ve2_220 (.li 7))
def ve2_229 : E := (.ic .eql ve2_220 (.li 8))
def ve2_230 : E := (.ic .eql ve2_220 (.li 9))
def ve2_231 : E := (.ib .add .i64 (.li 2) (.ai 9 0 (.ci (.at 1 7) (.ci (.li 3) .n0))))
def ve2_232 : E := (.ic .eql ve2_231 (.li 3))
def ve2_233 : E := (.ic .eql ve2_231 (.li 2))
def ve2_234 : E := (.ic .eql (.ai 9 0 (.ci (.at 1 7) (.ci (.li 7) .n0))) (.li 0))
def ve2_235 : E := (.tf ve2_208 (.fb .quo (.i2f (.ib .sub .i64 (.ai 9 0 (.ci (.ib .quo .i64 (.at 1 7) (.li 11)) (.ci (.li 33) .n0))) (.li 16))) (.lf 4620693217682128896)) (.lf 0))
def ve2_236 : E := (.ib .sub .i64 (.ib .sub .i64 (.li 11) ve2_1) (.li 9))
def ve2_237 : E := (.ic .eql ve2_236 (.li 0))
def ve2_238 : E := (.ic .eql ve2_236 (.li 1))
def ve2_239 : E := (.ib .sub .i64 (.ib .sub .i64 (.li 11) ve2_6) (.li 9))
def ve2_240 : E := (.ic .eql ve2_239 (.li 0))
def ve2_241 : E := (.ic .eql ve2_239 (.li 1))
def ve2_242 : E := (.ib .sub .i64 (.ib .sub .i64 (.li 11) ve2_8) (.li 9))
def ve2_243 : E := (.ic .eql ve2_242 (.li 0))
def ve2_244 : E := (.ic .eql ve2_242 (.li 1))
def vN2 : Nms := [(1310748687, 100, (.tf (.ic .eql ve2_2 (.li 0)) ve2_3 (.tf (.ic .eql ve2_2 (.li 1)) ve2_4 ve2_5))),
  (3313753436, 101, (.tf (.ic .eql ve2_7 (.li 0)) ve2_3 (.tf (.ic .eql ve2_7 (.li 1)) ve2_4 ve2_5))),
  (1021790894, 102, (.tf (.ic .eql ve2_9 (.li 0)) ve2_3 (.tf (.ic .eql ve2_9 (.li 1)) ve2_4 ve2_5))),
  (3457082686, 103, (.tf (.ic .eql ve2_11 (.li 0)) ve2_12 (.tf (.ic .eql ve2_11 (.li 1)) ve2_3 (.tf (.ic .eql ve2_11 (.li 2)) ve2_4 ve2_5)))),
  (2088831259, 104, (.tf (.ic .eql ve2_13 (.li 0)) ve2_12 (.tf (.ic .eql ve2_13 (.li 1)) ve2_3 (.tf (.ic .eql ve2_13 (.li 2)) ve2_4 ve2_5)))),
  (2771918838, 105, (.tf ve2_15 (.fb .sub (.vf 103) (.vf 104)) (.fb .mul (.vf 103) (.vf 104)))),
  (1842070184, 106, (.tf ve2_16 (.fb .add (.vf 103) (.vf 104)) (.vf 105))),
  (1838636262, 107, (.tf ve2_17 (.fb .quo (.vf 103) (.vf 104)) (.vf 106))),
  (1221405731, 108, (.tf ve2_10 ve2_18 (.tf (.vb 2) (.vf 107) (.vf 106)))),
  (3187446903, 109, (.tf ve2_20 ve2_4 (.tf ve2_21 ve2_5 (.vf 108)))),
  (895484361, 110, (.tf ve2_23 ve2_4 (.tf ve2_24 ve2_5 (.vf 108)))),
  (2898489110, 111, (.tf ve2_26 ve2_4 (.tf ve2_27 ve2_5 (.vf 108)))),
  (635078638, 112, (.af 20 0 (.cf (.vf 103) (.cf (.vf 103) (.cf (.vf 104) (.cf (.vf 104) .n0)))))),
  (636078641, 113, (.af 20 1 (.cf (.vf 103) (.cf (.vf 103) (.cf (.vf 104) (.cf (.vf 104) .n0)))))),
  (4208667135, 114, (.af 21 0 (.cf (.vf 103) (.cf (.vf 103) (.cf (.vf 104) (.cf (.vf 104) .n0)))))),
  (4209667138, 115, (.af 21 1 (.cf (.vf 103) (.cf (.vf 103) (.cf (.vf 104) (.cf (.vf 104) .n0)))))),
  (3487288341, 116, (.af 22 0 (.cf (.vf 103) (.cf (.vf 103) (.cf (.vf 104) (.cf (.vf 104) .n0)))))),
  (3488288344, 117, (.af 22 1 (.cf (.vf 103) (.cf (.vf 103) (.cf (.vf 104) (.cf (.vf 104) .n0)))))),
  (4141447276, 118, (.tf ve2_15 (.vf 115) (.vf 117))),
  (4140447272, 119, (.tf ve2_15 (.vf 114) (.vf 116))),
  (1287237568, 120, (.tf ve2_16 (.vf 113) (.vf 118))),
  (1286237566, 121, (.tf ve2_16 (.vf 112) (.vf 119))),
  (2765909547, 122, (.af 23 0 (.cf (.vf 103) (.cf (.vf 103) (.cf (.vf 104) (.cf (.vf 104) .n0)))))),
  (2766909550, 123, (.af 23 1 (.cf (.vf 103) (.cf (.vf 103) (.cf (.vf 104) (.cf (.vf 104) .n0)))))),
  (344591034, 124, (.tf ve2_17 (.vf 123) (.vf 120))),
  (343591032, 125, (.tf ve2_17 (.vf 122) (.vf 121))),
  (1238405796, 126, (.tf ve2_10 ve2_18 (.tf (.vb 2) (.vf 124) (.vf 120)))),
  (1239405800, 127, (.tf ve2_10 ve2_18 (.tf (.vb 2) (.vf 125) (.vf 121)))),
  (3187446922, 128, (.tf ve2_20 ve2_4 (.tf ve2_21 ve2_5 (.vf 127)))),
  (3187446921, 129, (.tf ve2_20 ve2_4 (.tf ve2_21 ve2_5 (.vf 126)))),
  (895484380, 130, (.tf ve2_23 ve2_4 (.tf ve2_24 ve2_5 (.vf 127)))),
  (895484379, 131, (.tf ve2_23 ve2_4 (.tf ve2_24 ve2_5 (.vf 126)))),
  (2898489129, 132, (.tf ve2_26 ve2_4 (.tf ve2_27 ve2_5 (.vf 127)))),
  (2898489128, 133, (.tf ve2_26 ve2_4 (.tf ve2_27 ve2_5 (.vf 126)))),
  (3576773634, 134, (.tf ve2_30 ve2_12 (.tf ve2_31 ve2_3 (.tf ve2_32 ve2_4 (.tf ve2_33 ve2_5 (.vf 108)))))),
  (1752438398, 135, (.tf ve2_35 ve2_12 (.tf ve2_36 ve2_3 (.tf ve2_37 ve2_4 (.tf ve2_38 ve2_5 (.vf 108)))))),
  (2595853957, 136, (.tf ve2_40 (.fb .sub (.vf 134) (.vf 135)) (.fb .mul (.vf 134) (.vf 135)))),
  (1635005210, 137, (.tf ve2_41 (.fb .add (.vf 134) (.vf 135)) (.vf 136))),
  (1631571288, 138, (.tf ve2_42 (.fb .quo (.vf 134) (.vf 135)) (.vf 137))),
  (561076684, 139, (.tf ve2_28 ve2_43 (.tf (.vb 2) (.vf 138) (.vf 137)))),
  (997454805, 140, (.tf ve2_45 ve2_5 (.tf ve2_46 (.vf 108) (.vf 139)))),
  (3000459554, 141, (.tf ve2_48 ve2_5 (.tf ve2_49 (.vf 108) (.vf 139)))),
  (708497012, 142, (.tf ve2_51 ve2_5 (.tf ve2_52 (.vf 108) (.vf 139)))),
  (3576773653, 143, (.tf ve2_30 ve2_12 (.tf ve2_31 ve2_3 (.tf ve2_32 ve2_4 (.tf ve2_33 ve2_5 (.vf 127)))))),
  (3576773652, 144, (.tf ve2_30 ve2_12 (.tf ve2_31 ve2_3 (.tf ve2_32 ve2_4 (.tf ve2_33 ve2_5 (.vf 126)))))),
  (1752438417, 145, (.tf ve2_35 ve2_12 (.tf ve2_36 ve2_3 (.tf ve2_37 ve2_4 (.tf ve2_38 ve2_5 (.vf 127)))))),
  (1752438416, 146, (.tf ve2_35 ve2_12 (.tf ve2_36 ve2_3 (.tf ve2_37 ve2_4 (.tf ve2_38 ve2_5 (.vf 126)))))),
  (799079130, 147, (.af 20 0 (.cf (.vf 143) (.cf (.vf 144) (.cf (.vf 145) (.cf (.vf 146) .n0)))))),
  (800079133, 148, (.af 20 1 (.cf (.vf 143) (.cf (.vf 144) (.cf (.vf 145) (.cf (.vf 146) .n0)))))),
  (77700336, 149, (.af 21 0 (.cf (.vf 143) (.cf (.vf 144) (.cf (.vf 145) (.cf (.vf 146) .n0)))))),
  (78700339, 150, (.af 21 1 (.cf (.vf 143) (.cf (.vf 144) (.cf (.vf 145) (.cf (.vf 146) .n0)))))),
  (3651288833, 151, (.af 22 0 (.cf (.vf 143) (.cf (.vf 144) (.cf (.vf 145) (.cf (.vf 146) .n0)))))),
  (3652288836, 152, (.af 22 1 (.cf (.vf 143) (.cf (.vf 144) (.cf (.vf 145) (.cf (.vf 146) .n0)))))),
  (531321186, 153, (.tf ve2_40 (.vf 150) (.vf 152))),
  (530321182, 154, (.tf ve2_40 (.vf 149) (.vf 151))),
  (1972078769, 155, (.tf ve2_41 (.vf 148) (.vf 153))),
  (1971078767, 156, (.tf ve2_41 (.vf 147) (.vf 154))),
  (2929910039, 157, (.af 23 0 (.cf (.vf 143) (.cf (.vf 144) (.cf (.vf 145) (.cf (.vf 146) .n0)))))),
  (2930910042, 158, (.af 23 1 (.cf (.vf 143) (.cf (.vf 144) (.cf (.vf 145) (.cf (.vf 146) .n0)))))),
  (1029432235, 159, (.tf ve2_42 (.vf 158) (.vf 155))),
  (1028432233, 160, (.tf ve2_42 (.vf 157) (.vf 156))),
  (582076765, 161, (.tf ve2_28 ve2_43 (.tf (.vb 2) (.vf 159) (.vf 155)))),
  (583076769, 162, (.tf ve2_28 ve2_43 (.tf (.vb 2) (.vf 160) (.vf 156)))),
  (1016454885, 163, (.tf ve2_45 ve2_5 (.tf ve2_46 (.vf 127) (.vf 162)))),
  (1015454881, 164, (.tf ve2_45 ve2_5 (.tf ve2_46 (.vf 126) (.vf 161)))),
  (3019459634, 165, (.tf ve2_48 ve2_5 (.tf ve2_49 (.vf 127) (.vf 162)))),
  (3018459630, 166, (.tf ve2_48 ve2_5 (.tf ve2_49 (.vf 126) (.vf 161)))),
  (727497092, 167, (.tf ve2_51 ve2_5 (.tf ve2_52 (.vf 127) (.vf 162)))),
  (726497088, 168, (.tf ve2_51 ve2_5 (.tf ve2_52 (.vf 126) (.vf 161)))),
  (1884583302, 169, (.tf ve2_55 ve2_12 (.tf ve2_56 ve2_3 (.tf ve2_57 ve2_4 (.tf ve2_58 ve2_5 (.tf ve2_59 (.vf 108) (.vf 139))))))),
  (3899131548, 170, (.tf ve2_61 ve2_12 (.tf ve2_62 ve2_3 (.tf ve2_63 ve2_4 (.tf ve2_64 ve2_5 (.tf ve2_65 (.vf 108) (.vf 139))))))),
  (3837241219, 171, (.tf ve2_67 (.fb .sub (.vf 169) (.vf 170)) (.fb .mul (.vf 169) (.vf 170)))),
  (2841392367, 172, (.tf ve2_68 (.fb .add (.vf 169) (.vf 170)) (.vf 171))),
  (2837958445, 173, (.tf ve2_69 (.fb .quo (.vf 169) (.vf 170)) (.vf 172))),
  (4199714944, 174, (.tf ve2_53 ve2_70 (.tf (.vb 2) (.vf 173) (.vf 172)))),
  (684752994, 175, (.tf ve2_72 (.vf 108) (.tf ve2_73 (.vf 139) (.vf 174)))),
  (2687757743, 176, (.tf ve2_75 (.vf 108) (.tf ve2_76 (.vf 139) (.vf 174)))),
  (395795201, 177, (.tf ve2_78 (.vf 108) (.tf ve2_79 (.vf 139) (.vf 174)))),
  (1903583382, 178, (.tf ve2_55 ve2_12 (.tf ve2_56 ve2_3 (.tf ve2_57 ve2_4 (.tf ve2_58 ve2_5 (.tf ve2_59 (.vf 127) (.vf 162))))))),
  (1902583378, 179, (.tf ve2_55 ve2_12 (.tf ve2_56 ve2_3 (.tf ve2_57 ve2_4 (.tf ve2_58 ve2_5 (.tf ve2_59 (.vf 126) (.vf 161))))))),
  (3918131628, 180, (.tf ve2_61 ve2_12 (.tf ve2_62 ve2_3 (.tf ve2_63 ve2_4 (.tf ve2_64 ve2_5 (.tf ve2_65 (.vf 127) (.vf 162))))))),
  (3917131624, 181, (.tf ve2_61 ve2_12 (.tf ve2_62 ve2_3 (.tf ve2_63 ve2_4 (.tf ve2_64 ve2_5 (.tf ve2_65 (.vf 126) (.vf 161))))))),
  (939079550, 182, (.af 20 0 (.cf (.vf 178) (.cf (.vf 179) (.cf (.vf 180) (.cf (.vf 181) .n0)))))),
  (940079553, 183, (.af 20 1 (.cf (.vf 178) (.cf (.vf 179) (.cf (.vf 180) (.cf (.vf 181) .n0)))))),
  (217700756, 184, (.af 21 0 (.cf (.vf 178) (.cf (.vf 179) (.cf (.vf 180) (.cf (.vf 181) .n0)))))),
  (218700759, 185, (.af 21 1 (.cf (.vf 178) (.cf (.vf 179) (.cf (.vf 180) (.cf (.vf 181) .n0)))))),
  (3791289253, 186, (.af 22 0 (.cf (.vf 178) (.cf (.vf 179) (.cf (.vf 180) (.cf (.vf 181) .n0)))))),
  (3792289256, 187, (.af 22 1 (.cf (.vf 178) (.cf (.vf 179) (.cf (.vf 180) (.cf (.vf 181) .n0)))))),
  (1216162387, 188, (.tf ve2_67 (.vf 185) (.vf 187))),
  (1215162383, 189, (.tf ve2_67 (.vf 184) (.vf 186))),
  (2656919970, 190, (.tf ve2_68 (.vf 183) (.vf 188))),
  (2655919968, 191, (.tf ve2_68 (.vf 182) (.vf 189))),
  (3069910459, 192, (.af 23 0 (.cf (.vf 178) (.cf (.vf 179) (.cf (.vf 180) (.cf (.vf 181) .n0)))))),
  (3070910462, 193, (.af 23 1 (.cf (.vf 178) (.cf (.vf 179) (.cf (.vf 180) (.cf (.vf 181) .n0)))))),
  (1714273436, 194, (.tf ve2_69 (.vf 193) (.vf 190))),
  (1713273434, 195, (.tf ve2_69 (.vf 192) (.vf 191))),
  (4220715025, 196, (.tf ve2_53 ve2_70 (.tf (.vb 2) (.vf 194) (.vf 190)))),
  (4221715029, 197, (.tf ve2_53 ve2_70 (.tf (.vb 2) (.vf 195) (.vf 191)))),
  (726753143, 198, (.tf ve2_72 (.vf 127) (.tf ve2_73 (.vf 162) (.vf 197)))),
  (724753136, 199, (.tf ve2_72 (.vf 126) (.tf ve2_73 (.vf 161) (.vf 196)))),
  (2729757892, 200, (.tf ve2_75 (.vf 127) (.tf ve2_76 (.vf 162) (.vf 197)))),
  (2727757885, 201, (.tf ve2_75 (.vf 126) (.tf ve2_76 (.vf 161) (.vf 196)))),
  (437795350, 202, (.tf ve2_78 (.vf 127) (.tf ve2_79 (.vf 162) (.vf 197)))),
  (435795343, 203, (.tf ve2_78 (.vf 126) (.tf ve2_79 (.vf 161) (.vf 196)))),
  (2066506356, 204, (.tf ve2_82 ve2_12 (.tf ve2_83 ve2_3 (.tf ve2_84 ve2_4 (.tf ve2_85 ve2_5 (.tf ve2_86 (.vf 108) (.tf ve2_87 (.vf 139) (.vf 174)))))))),
  (3624970793, 205, (.tf ve2_89 ve2_12 (.tf ve2_90 ve2_3 (.tf ve2_91 ve2_4 (.tf ve2_92 ve2_5 (.tf ve2_93 (.vf 108) (.tf ve2_94 (.vf 139) (.vf 174)))))))),
  (783661190, 206, (.tf ve2_96 (.fb .sub (.vf 204) (.vf 205)) (.fb .mul (.vf 204) (.vf 205)))),
  (4047779524, 207, (.tf ve2_97 (.fb .add (.vf 204) (.vf 205)) (.vf 206))),
  (4044345602, 208, (.tf ve2_98 (.fb .quo (.vf 204) (.vf 205)) (.vf 207))),
  (3543385913, 209, (.tf ve2_80 ve2_99 (.tf (.vb 2) (.vf 208) (.vf 207)))),
  (1156063306, 210, (.tf ve2_101 (.vf 139) (.tf ve2_102 (.vf 174) (.vf 209)))),
  (3159068055, 211, (.tf ve2_104 (.vf 139) (.tf ve2_105 (.vf 174) (.vf 209)))),
  (867105513, 212, (.tf ve2_107 (.vf 139) (.tf ve2_108 (.vf 174) (.vf 209)))),
  (2108506505, 213, (.tf ve2_82 ve2_12 (.tf ve2_83 ve2_3 (.tf ve2_84 ve2_4 (.tf ve2_85 ve2_5 (.tf ve2_86 (.vf 127) (.tf ve2_87 (.vf 162) (.vf 197)))))))),
  (2106506498, 214, (.tf ve2_82 ve2_12 (.tf ve2_83 ve2_3 (.tf ve2_84 ve2_4 (.tf ve2_85 ve2_5 (.tf ve2_86 (.vf 126) (.tf ve2_87 (.vf 161) (.vf 196)))))))),
  (3666970942, 215, (.tf ve2_89 ve2_12 (.tf ve2_90 ve2_3 (.tf ve2_91 ve2_4 (.tf ve2_92 ve2_5 (.tf ve2_93 (.vf 127) (.tf ve2_94 (.vf 162) (.vf 197)))))))),
  (3664970935, 216, (.tf ve2_89 ve2_12 (.tf ve2_90 ve2_3 (.tf ve2_91 ve2_4 (.tf ve2_92 ve2_5 (.tf ve2_93 (.vf 126) (.tf ve2_94 (.vf 161) (.vf 196)))))))),
  (1079079970, 217, (.af 20 0 (.cf (.vf 213) (.cf (.vf 214) (.cf (.vf 215) (.cf (.vf 216) .n0)))))),
  (1080079973, 218, (.af 20 1 (.cf (.vf 213) (.cf (.vf 214) (.cf (.vf 215) (.cf (.vf 216) .n0)))))),
  (357701176, 219, (.af 21 0 (.cf (.vf 213) (.cf (.vf 214) (.cf (.vf 215) (.cf (.vf 216) .n0)))))),
  (358701179, 220, (.af 21 1 (.cf (.vf 213) (.cf (.vf 214) (.cf (.vf 215) (.cf (.vf 216) .n0)))))),
  (3931289673, 221, (.af 22 0 (.cf (.vf 213) (.cf (.vf 214) (.cf (.vf 215) (.cf (.vf 216) .n0)))))),
  (3932289676, 222, (.af 22 1 (.cf (.vf 213) (.cf (.vf 214) (.cf (.vf 215) (.cf (.vf 216) .n0)))))),
  (1901003588, 223, (.tf ve2_96 (.vf 220) (.vf 222))),
  (1900003584, 224, (.tf ve2_96 (.vf 219) (.vf 221))),
  (3341761171, 225, (.tf ve2_97 (.vf 218) (.vf 223))),
  (3340761169, 226, (.tf ve2_97 (.vf 217) (.vf 224))),
  (3209910879, 227, (.af 23 0 (.cf (.vf 213) (.cf (.vf 214) (.cf (.vf 215) (.cf (.vf 216) .n0)))))),
  (3210910882, 228, (.af 23 1 (.cf (.vf 213) (.cf (.vf 214) (.cf (.vf 215) (.cf (.vf 216) .n0)))))),
  (2399114637, 229, (.tf ve2_98 (.vf 228) (.vf 225))),
  (2398114635, 230, (.tf ve2_98 (.vf 227) (.vf 226))),
  (3564385994, 231, (.tf ve2_80 ve2_99 (.tf (.vb 2) (.vf 229) (.vf 225)))),
  (3565385998, 232, (.tf ve2_80 ve2_99 (.tf (.vb 2) (.vf 230) (.vf 226)))),
  (1202063467, 233, (.tf ve2_101 (.vf 162) (.tf ve2_102 (.vf 197) (.vf 232)))),
  (1200063460, 234, (.tf ve2_101 (.vf 161) (.tf ve2_102 (.vf 196) (.vf 231)))),
  (3205068216, 235, (.tf ve2_104 (.vf 162) (.tf ve2_105 (.vf 197) (.vf 232)))),
  (3203068209, 236, (.tf ve2_104 (.vf 161) (.tf ve2_105 (.vf 196) (.vf 231)))),
  (913105674, 237, (.tf ve2_107 (.vf 162) (.tf ve2_108 (.vf 197) (.vf 232)))),
  (911105667, 238, (.tf ve2_107 (.vf 161) (.tf ve2_108 (.vf 196) (.vf 231)))),
  (4126542804, 239, (.tf ve2_111 ve2_12 (.tf ve2_112 ve2_3 (.tf ve2_113 ve2_4 (.tf ve2_114 ve2_5 (.tf ve2_115 (.vf 108) (.tf ve2_116 (.vf 139) (.tf ve2_117 (.vf 174) (.vf 209))))))))),
  (933956141, 240, (.tf ve2_119 ve2_12 (.tf ve2_120 ve2_3 (.tf ve2_121 ve2_4 (.tf ve2_122 ve2_5 (.tf ve2_123 (.vf 108) (.tf ve2_124 (.vf 139) (.tf ve2_125 (.vf 174) (.vf 209))))))))),
  (2025048452, 241, (.tf ve2_127 (.fb .sub (.vf 239) (.vf 240)) (.fb .mul (.vf 239) (.vf 240)))),
  (959199390, 242, (.tf ve2_128 (.fb .add (.vf 239) (.vf 240)) (.vf 241))),
  (955765468, 243, (.tf ve2_129 (.fb .quo (.vf 239) (.vf 240)) (.vf 242))),
  (2887056882, 244, (.tf ve2_109 ve2_130 (.tf (.vb 2) (.vf 243) (.vf 242)))),
  (1631373630, 245, (.tf ve2_132 (.vf 174) (.tf ve2_133 (.vf 209) (.vf 244)))),
  (3634378379, 246, (.tf ve2_135 (.vf 174) (.tf ve2_136 (.vf 209) (.vf 244)))),
  (1342415837, 247, (.tf ve2_138 (.vf 174) (.tf ve2_139 (.vf 209) (.vf 244)))),
  (4191543022, 248, (.tf ve2_111 ve2_12 (.tf ve2_112 ve2_3 (.tf ve2_113 ve2_4 (.tf ve2_114 ve2_5 (.tf ve2_115 (.vf 127) (.tf ve2_116 (.vf 162) (.tf ve2_117 (.vf 197) (.vf 232))))))))),
  (4188543012, 249, (.tf ve2_111 ve2_12 (.tf ve2_112 ve2_3 (.tf ve2_113 ve2_4 (.tf ve2_114 ve2_5 (.tf ve2_115 (.vf 126) (.tf ve2_116 (.vf 161) (.tf ve2_117 (.vf 196) (.vf 231))))))))),
  (998956359, 250, (.tf ve2_119 ve2_12 (.tf ve2_120 ve2_3 (.tf ve2_121 ve2_4 (.tf ve2_122 ve2_5 (.tf ve2_123 (.vf 127) (.tf ve2_124 (.vf 162) (.tf ve2_125 (.vf 197) (.vf 232))))))))),
  (995956349, 251, (.tf ve2_119 ve2_12 (.tf ve2_120 ve2_3 (.tf ve2_121 ve2_4 (.tf ve2_122 ve2_5 (.tf ve2_123 (.vf 126) (.tf ve2_124 (.vf 161) (.tf ve2_125 (.vf 196) (.vf 231))))))))),
  (1219080390, 252, (.af 20 0 (.cf (.vf 248) (.cf (.vf 249) (.cf (.vf 250) (.cf (.vf 251) .n0)))))),
  (1220080393, 253, (.af 20 1 (.cf (.vf 248) (.cf (.vf 249) (.cf (.vf 250) (.cf (.vf 251) .n0)))))),
  (497701596, 254, (.af 21 0 (.cf (.vf 248) (.cf (.vf 249) (.cf (.vf 250) (.cf (.vf 251) .n0)))))),
  (498701599, 255, (.af 21 1 (.cf (.vf 248) (.cf (.vf 249) (.cf (.vf 250) (.cf (.vf 251) .n0)))))),
  (4071290093, 256, (.af 22 0 (.cf (.vf 248) (.cf (.vf 249) (.cf (.vf 250) (.cf (.vf 251) .n0)))))),
  (4072290096, 257, (.af 22 1 (.cf (.vf 248) (.cf (.vf 249) (.cf (.vf 250) (.cf (.vf 251) .n0)))))),
  (2585844789, 258, (.tf ve2_127 (.vf 255) (.vf 257))),
  (2584844785, 259, (.tf ve2_127 (.vf 254) (.vf 256))),
  (4026602372, 260, (.tf ve2_128 (.vf 253) (.vf 258))),
  (4025602370, 261, (.tf ve2_128 (.vf 252) (.vf 259))),
  (3349911299, 262, (.af 23 0 (.cf (.vf 248) (.cf (.vf 249) (.cf (.vf 250) (.cf (.vf 251) .n0)))))),
  (3350911302, 263, (.af 23 1 (.cf (.vf 248) (.cf (.vf 249) (.cf (.vf 250) (.cf (.vf 251) .n0)))))),
  (3083955838, 264, (.tf ve2_129 (.vf 263) (.vf 260))),
  (3082955836, 265, (.tf ve2_129 (.vf 262) (.vf 261))),
  (2908056963, 266, (.tf ve2_109 ve2_130 (.tf (.vb 2) (.vf 264) (.vf 260)))),
  (2909056967, 267, (.tf ve2_109 ve2_130 (.tf (.vb 2) (.vf 265) (.vf 261)))),
  (1677373791, 268, (.tf ve2_132 (.vf 197) (.tf ve2_133 (.vf 232) (.vf 267)))),
  (1675373784, 269, (.tf ve2_132 (.vf 196) (.tf ve2_133 (.vf 231) (.vf 266)))),
  (3680378540, 270, (.tf ve2_135 (.vf 197) (.tf ve2_136 (.vf 232) (.vf 267)))),
  (3678378533, 271, (.tf ve2_135 (.vf 196) (.tf ve2_136 (.vf 231) (.vf 266)))),
  (1388415998, 272, (.tf ve2_138 (.vf 197) (.tf ve2_139 (.vf 232) (.vf 267)))),
  (1386415991, 273, (.tf ve2_138 (.vf 196) (.tf ve2_139 (.vf 231) (.vf 266)))),
  (3769725355, 274, (.tf ve2_142 ve2_12 (.tf ve2_143 ve2_3 (.tf ve2_144 ve2_4 (.tf ve2_145 ve2_5 (.tf ve2_146 (.vf 108) (.tf ve2_147 (.vf 139) (.tf ve2_148 (.vf 174) (.tf ve2_149 (.vf 209) (.vf 244)))))))))),
  (121054883, 275, (.tf ve2_151 ve2_12 (.tf ve2_152 ve2_3 (.tf ve2_153 ve2_4 (.tf ve2_154 ve2_5 (.tf ve2_155 (.vf 108) (.tf ve2_156 (.vf 139) (.tf ve2_157 (.vf 174) (.tf ve2_158 (.vf 209) (.vf 244)))))))))),
  (3266435714, 276, (.tf ve2_160 (.fb .sub (.vf 274) (.vf 275)) (.fb .mul (.vf 274) (.vf 275)))),
  (2165586547, 277, (.tf ve2_161 (.fb .add (.vf 274) (.vf 275)) (.vf 276))),
  (2162152625, 278, (.tf ve2_162 (.fb .quo (.vf 274) (.vf 275)) (.vf 277))),
  (2230727851, 279, (.tf ve2_140 ve2_163 (.tf (.vb 2) (.vf 278) (.vf 277)))),
  (2106683954, 280, (.tf ve2_165 (.vf 209) (.tf ve2_166 (.vf 244) (.vf 279)))),
  (4109688703, 281, (.tf ve2_168 (.vf 209) (.tf ve2_169 (.vf 244) (.vf 279)))),
  (1817726161, 282, (.tf ve2_171 (.vf 209) (.tf ve2_172 (.vf 244) (.vf 279)))),
  (3857725642, 283, (.tf ve2_142 ve2_12 (.tf ve2_143 ve2_3 (.tf ve2_144 ve2_4 (.tf ve2_145 ve2_5 (.tf ve2_146 (.vf 127) (.tf ve2_147 (.vf 162) (.tf ve2_148 (.vf 197) (.tf ve2_149 (.vf 232) (.vf 267)))))))))),
  (3853725629, 284, (.tf ve2_142 ve2_12 (.tf ve2_143 ve2_3 (.tf ve2_144 ve2_4 (.tf ve2_145 ve2_5 (.tf ve2_146 (.vf 126) (.tf ve2_147 (.vf 161) (.tf ve2_148 (.vf 196) (.tf ve2_149 (.vf 231) (.vf 266)))))))))),
  (209055170, 285, (.tf ve2_151 ve2_12 (.tf ve2_152 ve2_3 (.tf ve2_153 ve2_4 (.tf ve2_154 ve2_5 (.tf ve2_155 (.vf 127) (.tf ve2_156 (.vf 162) (.tf ve2_157 (.vf 197) (.tf ve2_158 (.vf 232) (.vf 267)))))))))),
  (205055157, 286, (.tf ve2_151 ve2_12 (.tf ve2_152 ve2_3 (.tf ve2_153 ve2_4 (.tf ve2_154 ve2_5 (.tf ve2_155 (.vf 126) (.tf ve2_156 (.vf 161) (.tf ve2_157 (.vf 196) (.tf ve2_158 (.vf 231) (.vf 266)))))))))),
  (1359080810, 287, (.af 20 0 (.cf (.vf 283) (.cf (.vf 284) (.cf (.vf 285) (.cf (.vf 286) .n0)))))),
  (1360080813, 288, (.af 20 1 (.cf (.vf 283) (.cf (.vf 284) (.cf (.vf 285) (.cf (.vf 286) .n0)))))),
  (637702016, 289, (.af 21 0 (.cf (.vf 283) (.cf (.vf 284) (.cf (.vf 285) (.cf (.vf 286) .n0)))))),
  (638702019, 290, (.af 21 1 (.cf (.vf 283) (.cf (.vf 284) (.cf (.vf 285) (.cf (.vf 286) .n0)))))),
  (4211290513, 291, (.af 22 0 (.cf (.vf 283) (.cf (.vf 284) (.cf (.vf 285) (.cf (.vf 286) .n0)))))),
  (4212290516, 292, (.af 22 1 (.cf (.vf 283) (.cf (.vf 284) (.cf (.vf 285) (.cf (.vf 286) .n0)))))),
  (3270685990, 293, (.tf ve2_160 (.vf 290) (.vf 292))),
  (3269685986, 294, (.tf ve2_160 (.vf 289) (.vf 291))),
  (416476282, 295, (.tf ve2_161 (.vf 288) (.vf 293))),
  (415476280, 296, (.tf ve2_161 (.vf 287) (.vf 294))),
  (3489911719, 297, (.af 23 0 (.cf (.vf 283) (.cf (.vf 284) (.cf (.vf 285) (.cf (.vf 286) .n0)))))),
  (3490911722, 298, (.af 23 1 (.cf (.vf 283) (.cf (.vf 284) (.cf (.vf 285) (.cf (.vf 286) .n0)))))),
  (3768797039, 299, (.tf ve2_162 (.vf 298) (.vf 295))),
  (3767797037, 300, (.tf ve2_162 (.vf 297) (.vf 296))),
  (2251727932, 301, (.tf ve2_140 ve2_163 (.tf (.vb 2) (.vf 299) (.vf 295)))),
  (2252727936, 302, (.tf ve2_140 ve2_163 (.tf (.vb 2) (.vf 300) (.vf 296)))),
  (2152684115, 303, (.tf ve2_165 (.vf 232) (.tf ve2_166 (.vf 267) (.vf 302)))),
  (2150684108, 304, (.tf ve2_165 (.vf 231) (.tf ve2_166 (.vf 266) (.vf 301)))),
  (4155688864, 305, (.tf ve2_168 (.vf 232) (.tf ve2_169 (.vf 267) (.vf 302)))),
  (4153688857, 306, (.tf ve2_168 (.vf 231) (.tf ve2_169 (.vf 266) (.vf 301)))),
  (1863726322, 307, (.tf ve2_171 (.vf 232) (.tf ve2_172 (.vf 267) (.vf 302)))),
  (1861726315, 308, (.tf ve2_171 (.vf 231) (.tf ve2_172 (.vf 266) (.vf 301)))),
  (996054009, 309, (.tf ve2_175 ve2_12 (.tf ve2_176 ve2_3 (.tf ve2_177 ve2_4 (.tf ve2_178 ve2_5 (.tf ve2_179 (.vf 108) (.tf ve2_180 (.vf 139) (.tf ve2_181 (.vf 174) (.tf ve2_182 (.vf 209) (.tf ve2_183 (.vf 244) (.vf 279))))))))))),
  (1186267019, 310, (.tf ve2_185 ve2_12 (.tf ve2_186 ve2_3 (.tf ve2_187 ve2_4 (.tf ve2_188 ve2_5 (.tf ve2_189 (.vf 108) (.tf ve2_190 (.vf 139) (.tf ve2_191 (.vf 174) (.tf ve2_192 (.vf 209) (.tf ve2_193 (.vf 244) (.vf 279))))))))))),
  (212855685, 311, (.tf ve2_195 (.fb .sub (.vf 309) (.vf 310)) (.fb .mul (.vf 309) (.vf 310)))),
  (3371973704, 312, (.tf ve2_196 (.fb .add (.vf 309) (.vf 310)) (.vf 311))),
  (3368539782, 313, (.tf ve2_197 (.fb .quo (.vf 309) (.vf 310)) (.vf 312))),
  (1574398820, 314, (.tf ve2_173 ve2_198 (.tf (.vb 2) (.vf 313) (.vf 312)))),
  (2581994278, 315, (.tf ve2_200 (.vf 244) (.tf ve2_201 (.vf 279) (.vf 314)))),
  (290031736, 316, (.tf ve2_203 (.vf 244) (.tf ve2_204 (.vf 279) (.vf 314)))),
  (2293036485, 317, (.tf ve2_206 (.vf 244) (.tf ve2_207 (.vf 279) (.vf 314)))),
  (1107054365, 318, (.tf ve2_175 ve2_12 (.tf ve2_176 ve2_3 (.tf ve2_177 ve2_4 (.tf ve2_178 ve2_5 (.tf ve2_179 (.vf 127) (.tf ve2_180 (.vf 162) (.tf ve2_181 (.vf 197) (.tf ve2_182 (.vf 232) (.tf ve2_183 (.vf 267) (.vf 302))))))))))),
  (1102054349, 319, (.tf ve2_175 ve2_12 (.tf ve2_176 ve2_3 (.tf ve2_177 ve2_4 (.tf ve2_178 ve2_5 (.tf ve2_179 (.vf 126) (.tf ve2_180 (.vf 161) (.tf ve2_181 (.vf 196) (.tf ve2_182 (.vf 231) (.tf ve2_183 (.vf 266) (.vf 301))))))))))),
  (1297267375, 320, (.tf ve2_185 ve2_12 (.tf ve2_186 ve2_3 (.tf ve2_187 ve2_4 (.tf ve2_188 ve2_5 (.tf ve2_189 (.vf 127) (.tf ve2_190 (.vf 162) (.tf ve2_191 (.vf 197) (.tf ve2_192 (.vf 232) (.tf ve2_193 (.vf 267) (.vf 302))))))))))),
  (1292267359, 321, (.tf ve2_185 ve2_12 (.tf ve2_186 ve2_3 (.tf ve2_187 ve2_4 (.tf ve2_188 ve2_5 (.tf ve2_189 (.vf 126) (.tf ve2_190 (.vf 161) (.tf ve2_191 (.vf 196) (.tf ve2_192 (.vf 231) (.tf ve2_193 (.vf 266) (.vf 301))))))))))),
  (1499081230, 322, (.af 20 0 (.cf (.vf 318) (.cf (.vf 319) (.cf (.vf 320) (.cf (.vf 321) .n0)))))),
  (1500081233, 323, (.af 20 1 (.cf (.vf 318) (.cf (.vf 319) (.cf (.vf 320) (.cf (.vf 321) .n0)))))),
  (777702436, 324, (.af 21 0 (.cf (.vf 318) (.cf (.vf 319) (.cf (.vf 320) (.cf (.vf 321) .n0)))))),
  (778702439, 325, (.af 21 1 (.cf (.vf 318) (.cf (.vf 319) (.cf (.vf 320) (.cf (.vf 321) .n0)))))),
  (56323642, 326, (.af 22 0 (.cf (.vf 318) (.cf (.vf 319) (.cf (.vf 320) (.cf (.vf 321) .n0)))))),
  (57323645, 327, (.af 22 1 (.cf (.vf 318) (.cf (.vf 319) (.cf (.vf 320) (.cf (.vf 321) .n0)))))),
  (3955527191, 328, (.tf ve2_195 (.vf 325) (.vf 327))),
  (3954527187, 329, (.tf ve2_195 (.vf 324) (.vf 326))),
  (1101317483, 330, (.tf ve2_196 (.vf 323) (.vf 328))),
  (1100317481, 331, (.tf ve2_196 (.vf 322) (.vf 329))),
  (3629912139, 332, (.af 23 0 (.cf (.vf 318) (.cf (.vf 319) (.cf (.vf 320) (.cf (.vf 321) .n0)))))),
  (3630912142, 333, (.af 23 1 (.cf (.vf 318) (.cf (.vf 319) (.cf (.vf 320) (.cf (.vf 321) .n0)))))),
  (158670949, 334, (.tf ve2_197 (.vf 333) (.vf 330))),
  (157670947, 335, (.tf ve2_197 (.vf 332) (.vf 331))),
  (1595398901, 336, (.tf ve2_173 ve2_198 (.tf (.vb 2) (.vf 334) (.vf 330)))),
  (1596398905, 337, (.tf ve2_173 ve2_198 (.tf (.vb 2) (.vf 335) (.vf 331)))),
  (2627994439, 338, (.tf ve2_200 (.vf 267) (.tf ve2_201 (.vf 302) (.vf 337)))),
  (2625994432, 339, (.tf ve2_200 (.vf 266) (.tf ve2_201 (.vf 301) (.vf 336)))),
  (336031897, 340, (.tf ve2_203 (.vf 267) (.tf ve2_204 (.vf 302) (.vf 337)))),
  (334031890, 341, (.tf ve2_203 (.vf 266) (.tf ve2_204 (.vf 301) (.vf 336)))),
  (2339036646, 342, (.tf ve2_206 (.vf 267) (.tf ve2_207 (.vf 302) (.vf 337)))),
  (2337036639, 343, (.tf ve2_206 (.vf 266) (.tf ve2_207 (.vf 301) (.vf 336)))),
  (100496057, 344, (.tf ve2_210 ve2_12 (.tf ve2_211 ve2_3 (.tf ve2_212 ve2_4 (.tf ve2_213 ve2_5 (.tf ve2_214 (.vf 108) (.tf ve2_215 (.vf 139) (.tf ve2_216 (.vf 174) (.tf ve2_217 (.vf 209) (.tf ve2_218 (.vf 244) (.tf ve2_219 (.vf 279) (.vf 314)))))))))))),
  (4129592549, 345, (.tf ve2_221 ve2_12 (.tf ve2_222 ve2_3 (.tf ve2_223 ve2_4 (.tf ve2_224 ve2_5 (.tf ve2_225 (.vf 108) (.tf ve2_226 (.vf 139) (.tf ve2_227 (.vf 174) (.tf ve2_228 (.vf 209) (.tf ve2_229 (.vf 244) (.tf ve2_230 (.vf 279) (.vf 314)))))))))))),
  (1454242947, 346, (.tf ve2_232 (.fb .sub (.vf 344) (.vf 345)) (.fb .mul (.vf 344) (.vf 345)))),
  (283393570, 347, (.tf ve2_233 (.fb .add (.vf 344) (.vf 345)) (.vf 346))),
  (279959648, 348, (.tf ve2_234 (.fb .quo (.vf 344) (.vf 345)) (.vf 347))),
  (918069789, 349, (.tf ve2_208 ve2_235 (.tf (.vb 2) (.vf 348) (.vf 347)))),
  (3057304602, 350, (.tf ve2_237 (.vf 279) (.tf ve2_238 (.vf 314) (.vf 349)))),
  (765342060, 351, (.tf ve2_240 (.vf 279) (.tf ve2_241 (.vf 314) (.vf 349)))),
  (2768346809, 352, (.tf ve2_243 (.vf 279) (.tf ve2_244 (.vf 314) (.vf 349)))),
  (234496482, 353, (.tf ve2_210 ve2_12 (.tf ve2_211 ve2_3 (.tf ve2_212 ve2_4 (.tf ve2_213 ve2_5 (.tf ve2_214 (.vf 127) (.tf ve2_215 (.vf 162) (.tf ve2_216 (.vf 197) (.tf ve2_217 (.vf 232) (.tf ve2_218 (.vf 267) (.tf ve2_219 (.vf 302) (.vf 337)))))))))))),
  (228496463, 354, (.tf ve2_210 ve2_12 (.tf ve2_211 ve2_3 (.tf ve2_212 ve2_4 (.tf ve2_213 ve2_5 (.tf ve2_214 (.vf 126) (.tf ve2_215 (.vf 161) (.tf ve2_216 (.vf 196) (.tf ve2_217 (.vf 231) (.tf ve2_218 (.vf 266) (.tf ve2_219 (.vf 301) (.vf 336)))))))))))),
  (4263592974, 355, (.tf ve2_221 ve2_12 (.tf ve2_222 ve2_3 (.tf ve2_223 ve2_4 (.tf ve2_224 ve2_5 (.tf ve2_225 (.vf 127) (.tf ve2_226 (.vf 162) (.tf ve2_227 (.vf 197) (.tf ve2_228 (.vf 232) (.tf ve2_229 (.vf 267) (.tf ve2_230 (.vf 302) (.vf 337)))))))))))),
  (4257592955, 356, (.tf ve2_221 ve2_12 (.tf ve2_222 ve2_3 (.tf ve2_223 ve2_4 (.tf ve2_224 ve2_5 (.tf ve2_225 (.vf 126) (.tf ve2_226 (.vf 161) (.tf ve2_227 (.vf 196) (.tf ve2_228 (.vf 231) (.tf ve2_229 (.vf 266) (.tf ve2_230 (.vf 301) (.vf 336)))))))))))),
  (1639081650, 357, (.af 20 0 (.cf (.vf 353) (.cf (.vf 354) (.cf (.vf 355) (.cf (.vf 356) .n0)))))),
  (1640081653, 358, (.af 20 1 (.cf (.vf 353) (.cf (.vf 354) (.cf (.vf 355) (.cf (.vf 356) .n0)))))),
  (917702856, 359, (.af 21 0 (.cf (.vf 353) (.cf (.vf 354) (.cf (.vf 355) (.cf (.vf 356) .n0)))))),
  (918702859, 360, (.af 21 1 (.cf (.vf 353) (.cf (.vf 354) (.cf (.vf 355) (.cf (.vf 356) .n0)))))),
  (196324062, 361, (.af 22 0 (.cf (.vf 353) (.cf (.vf 354) (.cf (.vf 355) (.cf (.vf 356) .n0)))))),
  (197324065, 362, (.af 22 1 (.cf (.vf 353) (.cf (.vf 354) (.cf (.vf 355) (.cf (.vf 356) .n0)))))),
  (345401101, 363, (.tf ve2_232 (.vf 360) (.vf 362))),
  (344401097, 364, (.tf ve2_232 (.vf 359) (.vf 361))),
  (1786158684, 365, (.tf ve2_233 (.vf 358) (.vf 363))),
  (1785158682, 366, (.tf ve2_233 (.vf 357) (.vf 364))),
  (3769912559, 367, (.af 23 0 (.cf (.vf 353) (.cf (.vf 354) (.cf (.vf 355) (.cf (.vf 356) .n0)))))),
  (3770912562, 368, (.af 23 1 (.cf (.vf 353) (.cf (.vf 354) (.cf (.vf 355) (.cf (.vf 356) .n0)))))),
  (843512150, 369, (.tf ve2_234 (.vf 368) (.vf 365))),
  (842512148, 370, (.tf ve2_234 (.vf 367) (.vf 366))),
  (939069870, 371, (.tf ve2_208 ve2_235 (.tf (.vb 2) (.vf 369) (.vf 365)))),
  (940069874, 372, (.tf ve2_208 ve2_235 (.tf (.vb 2) (.vf 370) (.vf 366)))),
  (3103304763, 373, (.tf ve2_237 (.vf 302) (.tf ve2_238 (.vf 337) (.vf 372)))),
  (3101304756, 374, (.tf ve2_237 (.vf 301) (.tf ve2_238 (.vf 336) (.vf 371)))),
  (811342221, 375, (.tf ve2_240 (.vf 302) (.tf ve2_241 (.vf 337) (.vf 372)))),
  (809342214, 376, (.tf ve2_240 (.vf 301) (.tf ve2_241 (.vf 336) (.vf 371)))),
  (2814346970, 377, (.tf ve2_243 (.vf 302) (.tf ve2_244 (.vf 337) (.vf 372)))),
  (2812346963, 378, (.tf ve2_243 (.vf 301) (.tf ve2_244 (.vf 336) (.vf 371))))]
set_option maxRecDepth 1000000 in
set_option maxHeartbeats 100000000 in
theorem vG2 : tabGood 100 vN2 = true := by kernel_rfl
end Go.Proofs.Ytilhcamdjehpnaa
