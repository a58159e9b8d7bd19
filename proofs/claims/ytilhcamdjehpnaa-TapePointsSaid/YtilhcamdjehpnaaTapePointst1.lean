/-
  'TapePoints': what names stand for, where the first rest is 1.
-/
import Derived.Test.YtilhcamdjehpnaaM3q
namespace Go.Proofs.Ytilhcamdjehpnaa
open Go.RowKit Ex
def ve1_0 : E := (.ib .quo .i64 (.vi 0) (.li 3))
def ve1_1 : E := (.ai 9 0 (.ci (.ib .add .i64 ve1_0 (.li 0)) (.ci (.li 3) .n0)))
def ve1_2 : E := (.ib .sub .i64 (.li 2) ve1_1)
def ve1_3 : E := (.fb .quo (.i2f (.ib .sub .i64 (.ai 9 0 (.ci (.ti (.ic .lss (.li 0) (.vl 3)) (.at 3 0) (.li 0)) (.ci (.li 65) .n0))) (.li 32))) (.lf 4620693217682128896))
def ve1_4 : E := (.fb .quo (.i2f (.ib .sub .i64 (.ai 9 0 (.ci (.ti (.ic .lss (.li 1) (.vl 3)) (.at 3 1) (.li 1)) (.ci (.li 65) .n0))) (.li 32))) (.lf 4620693217682128896))
def ve1_5 : E := (.fb .quo (.i2f (.ib .sub .i64 (.ai 9 0 (.ci (.vi 0) (.ci (.li 17) .n0))) (.li 8))) (.lf 4616189618054758400))
def ve1_6 : E := (.ai 9 0 (.ci (.ib .add .i64 ve1_0 (.li 1)) (.ci (.li 3) .n0)))
def ve1_7 : E := (.ib .sub .i64 (.li 2) ve1_6)
def ve1_8 : E := (.ic .eql (.ai 9 0 (.ci (.at 1 0) (.ci (.li 11) .n0))) (.li 0))
def ve1_9 : E := (.ti ve1_8 (.li 0) (.ai 9 0 (.ci (.ib .quo .i64 (.at 1 0) (.li 4)) (.ci (.li 3) .n0))))
def ve1_10 : E := (.ti ve1_8 (.li 0) (.ai 9 0 (.ci (.ib .quo .i64 (.at 1 0) (.li 40)) (.ci (.li 3) .n0))))
def ve1_11 : E := (.ib .add .i64 (.li 2) (.ai 9 0 (.ci (.at 1 0) (.ci (.li 3) .n0))))
def ve1_12 : E := (.ic .eql ve1_11 (.li 3))
def ve1_13 : E := (.ic .eql ve1_11 (.li 2))
def ve1_14 : E := (.ic .eql (.ai 9 0 (.ci (.at 1 0) (.ci (.li 7) .n0))) (.li 0))
def ve1_15 : E := (.tf ve1_8 (.fb .quo (.i2f (.ib .sub .i64 (.ai 9 0 (.ci (.ib .quo .i64 (.at 1 0) (.li 11)) (.ci (.li 33) .n0))) (.li 16))) (.lf 4620693217682128896)) (.lf 0))
def ve1_16 : E := (.ib .sub .i64 (.ib .sub .i64 (.li 3) ve1_1) (.li 1))
def ve1_17 : E := (.ic .eql ve1_16 (.li 0))
def ve1_18 : E := (.ic .eql ve1_16 (.li 1))
def ve1_19 : E := (.ib .sub .i64 (.ib .sub .i64 (.li 3) ve1_6) (.li 1))
def ve1_20 : E := (.ic .eql ve1_19 (.li 0))
def ve1_21 : E := (.ic .eql ve1_19 (.li 1))
def ve1_22 : E := (.ic .eql (.ai 9 0 (.ci (.at 1 1) (.ci (.li 11) .n0))) (.li 0))
def ve1_23 : E := (.ti ve1_22 (.li 0) (.ai 9 0 (.ci (.ib .quo .i64 (.at 1 1) (.li 4)) (.ci (.li 4) .n0))))
def ve1_24 : E := (.ic .eql ve1_23 (.li 0))
def ve1_25 : E := (.ic .eql ve1_23 (.li 1))
def ve1_26 : E := (.ic .eql ve1_23 (.li 2))
def ve1_27 : E := (.ti ve1_22 (.li 0) (.ai 9 0 (.ci (.ib .quo .i64 (.at 1 1) (.li 40)) (.ci (.li 4) .n0))))
def ve1_28 : E := (.ic .eql ve1_27 (.li 0))
def ve1_29 : E := (.ic .eql ve1_27 (.li 1))
def ve1_30 : E := (.ic .eql ve1_27 (.li 2))
def ve1_31 : E := (.ib .add .i64 (.li 2) (.ai 9 0 (.ci (.at 1 1) (.ci (.li 3) .n0))))
def ve1_32 : E := (.ic .eql ve1_31 (.li 3))
def ve1_33 : E := (.ic .eql ve1_31 (.li 2))
def ve1_34 : E := (.ic .eql (.ai 9 0 (.ci (.at 1 1) (.ci (.li 7) .n0))) (.li 0))
def ve1_35 : E := (.tf ve1_22 (.fb .quo (.i2f (.ib .sub .i64 (.ai 9 0 (.ci (.ib .quo .i64 (.at 1 1) (.li 11)) (.ci (.li 33) .n0))) (.li 16))) (.lf 4620693217682128896)) (.lf 0))
def ve1_36 : E := (.ib .sub .i64 (.ib .sub .i64 (.li 4) ve1_1) (.li 2))
def ve1_37 : E := (.ic .eql ve1_36 (.li 0))
def ve1_38 : E := (.ic .eql ve1_36 (.li 1))
def ve1_39 : E := (.ib .sub .i64 (.ib .sub .i64 (.li 4) ve1_6) (.li 2))
def ve1_40 : E := (.ic .eql ve1_39 (.li 0))
def ve1_41 : E := (.ic .eql ve1_39 (.li 1))
def ve1_42 : E := (.ic .eql (.ai 9 0 (.ci (.at 1 2) (.ci (.li 11) .n0))) (.li 0))
def ve1_43 : E := (.ti ve1_42 (.li 0) (.ai 9 0 (.ci (.ib .quo .i64 (.at 1 2) (.li 4)) (.ci (.li 5) .n0))))
def ve1_44 : E := (.ic .eql ve1_43 (.li 0))
def ve1_45 : E := (.ic .eql ve1_43 (.li 1))
def ve1_46 : E := (.ic .eql ve1_43 (.li 2))
def ve1_47 : E := (.ic .eql ve1_43 (.li 3))
def ve1_48 : E := (.ti ve1_42 (.li 0) (.ai 9 0 (.ci (.ib .quo .i64 (.at 1 2) (.li 40)) (.ci (.li 5) .n0))))
def ve1_49 : E := (.ic .eql ve1_48 (.li 0))
def ve1_50 : E := (.ic .eql ve1_48 (.li 1))
def ve1_51 : E := (.ic .eql ve1_48 (.li 2))
def ve1_52 : E := (.ic .eql ve1_48 (.li 3))
def ve1_53 : E := (.ib .add .i64 (.li 2) (.ai 9 0 (.ci (.at 1 2) (.ci (.li 3) .n0))))
def ve1_54 : E := (.ic .eql ve1_53 (.li 3))
def ve1_55 : E := (.ic .eql ve1_53 (.li 2))
def ve1_56 : E := (.ic .eql (.ai 9 0 (.ci (.at 1 2) (.ci (.li 7) .n0))) (.li 0))
def ve1_57 : E := (.tf ve1_42 (.fb .quo (.i2f (.ib .sub .i64 (.ai 9 0 (.ci (.ib .quo .i64 (.at 1 2) (.li 11)) (.ci (.li 33) .n0))) (.li 16))) (.lf 4620693217682128896)) (.lf 0))
def ve1_58 : E := (.ib .sub .i64 (.ib .sub .i64 (.li 5) ve1_1) (.li 3))
def ve1_59 : E := (.ic .eql ve1_58 (.li 0))
def ve1_60 : E := (.ic .eql ve1_58 (.li 1))
def ve1_61 : E := (.ib .sub .i64 (.ib .sub .i64 (.li 5) ve1_6) (.li 3))
def ve1_62 : E := (.ic .eql ve1_61 (.li 0))
def ve1_63 : E := (.ic .eql ve1_61 (.li 1))
def ve1_64 : E := (.ic .eql (.ai 9 0 (.ci (.at 1 3) (.ci (.li 11) .n0))) (.li 0))
def ve1_65 : E := (.ti ve1_64 (.li 0) (.ai 9 0 (.ci (.ib .quo .i64 (.at 1 3) (.li 4)) (.ci (.li 6) .n0))))
def ve1_66 : E := (.ic .eql ve1_65 (.li 0))
def ve1_67 : E := (.ic .eql ve1_65 (.li 1))
def ve1_68 : E := (.ic .eql ve1_65 (.li 2))
def ve1_69 : E := (.ic .eql ve1_65 (.li 3))
def ve1_70 : E := (.ic .eql ve1_65 (.li 4))
def ve1_71 : E := (.ti ve1_64 (.li 0) (.ai 9 0 (.ci (.ib .quo .i64 (.at 1 3) (.li 40)) (.ci (.li 6) .n0))))
def ve1_72 : E := (.ic .eql ve1_71 (.li 0))
def ve1_73 : E := (.ic .eql ve1_71 (.li 1))
def ve1_74 : E := (.ic .eql ve1_71 (.li 2))
def ve1_75 : E := (.ic .eql ve1_71 (.li 3))
def ve1_76 : E := (.ic .eql ve1_71 (.li 4))
def ve1_77 : E := (.ib .add .i64 (.li 2) (.ai 9 0 (.ci (.at 1 3) (.ci (.li 3) .n0))))
def ve1_78 : E := (.ic .eql ve1_77 (.li 3))
def ve1_79 : E := (.ic .eql ve1_77 (.li 2))
def ve1_80 : E := (.ic .eql (.ai 9 0 (.ci (.at 1 3) (.ci (.li 7) .n0))) (.li 0))
def ve1_81 : E := (.tf ve1_64 (.fb .quo (.i2f (.ib .sub .i64 (.ai 9 0 (.ci (.ib .quo .i64 (.at 1 3) (.li 11)) (.ci (.li 33) .n0))) (.li 16))) (.lf 4620693217682128896)) (.lf 0))
def ve1_82 : E := (.ib .sub .i64 (.ib .sub .i64 (.li 6) ve1_1) (.li 4))
def ve1_83 : E := (.ic .eql ve1_82 (.li 0))
def ve1_84 : E := (.ic .eql ve1_82 (.li 1))
def ve1_85 : E := (.ib .sub .i64 (.ib .sub .i64 (.li 6) ve1_6) (.li 4))
def ve1_86 : E := (.ic .eql ve1_85 (.li 0))
def ve1_87 : E := (.ic .eql ve1_85 (.li 1))
def ve1_88 : E := (.ic .eql (.ai 9 0 (.ci (.at 1 4) (.ci (.li 11) .n0))) (.li 0))
def ve1_89 : E := (.ti ve1_88 (.li 0) (.ai 9 0 (.ci (.ib .quo .i64 (.at 1 4) (.li 4)) (.ci (.li 7) .n0))))
def ve1_90 : E := (.ic .eql ve1_89 (.li 0))
def ve1_91 : E := (.ic .eql ve1_89 (.li 1))
def ve1_92 : E := (.ic .eql ve1_89 (.li 2))
def ve1_93 : E := (.ic .eql ve1_89 (.li 3))
def ve1_94 : E := (.ic .eql ve1_89 (.li 4))
def ve1_95 : E := (.ic .eql ve1_89 (.li 5))
def ve1_96 : E := (.ti ve1_88 (.li 0) (.ai 9 0 (.ci (.ib .quo .i64 (.at 1 4) (.li 40)) (.ci (.li 7) .n0))))
def ve1_97 : E := (.ic .eql ve1_96 (.li 0))
def ve1_98 : E := (.ic .eql ve1_96 (.li 1))
def ve1_99 : E := (.ic .eql ve1_96 (.li 2))
def ve1_100 : E := (.ic .eql ve1_96 (.li 3))
def ve1_101 : E := (.ic .eql ve1_96 (.li 4))
def ve1_102 : E := (.ic .eql ve1_96 (.li 5))
def ve1_103 : E := (.ib .add .i64 (.li 2) (.ai 9 0 (.ci (.at 1 4) (.ci (.li 3) .n0))))
def ve1_104 : E := (.ic .eql ve1_103 (.li 3))
def ve1_105 : E := (.ic .eql ve1_103 (.li 2))
def ve1_106 : E := (.ic .eql (.ai 9 0 (.ci (.at 1 4) (.ci (.li 7) .n0))) (.li 0))
def ve1_107 : E := (.tf ve1_88 (.fb .quo (.i2f (.ib .sub .i64 (.ai 9 0 (.ci (.ib .quo .i64 (.at 1 4) (.li 11)) (.ci (.li 33) .n0))) (.li 16))) (.lf 4620693217682128896)) (.lf 0))
def ve1_108 : E := (.ib .sub .i64 (.ib .sub .i64 (.li 7) ve1_1) (.li 5))
def ve1_109 : E := (.ic .eql ve1_108 (.li 0))
def ve1_110 : E := (.ic .eql ve1_108 (.li 1))
def ve1_111 : E := (.ib .sub .i64 (.ib .sub .i64 (.li 7) ve1_6) (.li 5))
def ve1_112 : E := (.ic .eql ve1_111 (.li 0))
def ve1_113 : E := (.ic .eql ve1_111 (.li 1))
def ve1_114 : E := (.ic .eql (.ai 9 0 (.ci (.at 1 5) (.ci (.li 11) .n0))) (.li 0))
def ve1_115 : E := (.ti ve1_114 (.li 0) (.ai 9 0 (.ci (.ib .quo .i64 (.at 1 5) (.li 4)) (.ci (.li 8) .n0))))
def ve1_116 : E := (.ic .eql ve1_115 (.li 0))
def ve1_117 : E := (.ic .eql ve1_115 (.li 1))
def ve1_118 : E := (.ic .eql ve1_115 (.li 2))
def ve1_119 : E := (.ic .eql ve1_115 (.li 3))
def ve1_120 : E := (.ic .eql ve1_115 (.li 4))
def ve1_121 : E := (.ic .eql ve1_115 (.li 5))
def ve1_122 : E := (.ic .eql ve1_115 (.li 6))
def ve1_123 : E := (.ti ve1_114 (.li 0) (.ai 9 0 (.ci (.ib .quo .i64 (.at 1 5) (.li 40)) (.ci (.li 8) .n0))))
def ve1_124 : E := (.ic .eql ve1_123 (.li 0))
def ve1_125 : E := (.ic .eql ve1_123 (.li 1))
def ve1_126 : E := (.ic .eql ve1_123 (.li 2))
def ve1_127 : E := (.ic .eql ve1_123 (.li 3))
def ve1_128 : E := (.ic .eql ve1_123 (.li 4))
def ve1_129 : E := (.ic .eql ve1_123 (.li 5))
def ve1_130 : E := (.ic .eql ve1_123 (.li 6))
def ve1_131 : E := (.ib .add .i64 (.li 2) (.ai 9 0 (.ci (.at 1 5) (.ci (.li 3) .n0))))
def ve1_132 : E := (.ic .eql ve1_131 (.li 3))
def ve1_133 : E := (.ic .eql ve1_131 (.li 2))
def ve1_134 : E := (.ic .eql (.ai 9 0 (.ci (.at 1 5) (.ci (.li 7) .n0))) (.li 0))
def ve1_135 : E := (.tf ve1_114 (.fb .quo (.i2f (.ib .sub .i64 (.ai 9 0 (.ci (.ib .quo .i64 (.at 1 5) (.li 11)) (.ci (.li 33) .n0))) (.li 16))) (.lf 4620693217682128896)) (.lf 0))
def ve1_136 : E := (.ib .sub .i64 (.ib .sub .i64 (.li 8) ve1_1) (.li 6))
def ve1_137 : E := (.ic .eql ve1_136 (.li 0))
def ve1_138 : E := (.ic .eql ve1_136 (.li 1))
def ve1_139 : E := (.ib .sub .i64 (.ib .sub .i64 (.li 8) ve1_6) (.li 6))
def ve1_140 : E := (.ic .eql ve1_139 (.li 0))
def ve1_141 : E := (.ic .eql ve1_139 (.li 1))
def ve1_142 : E := (.ic .eql (.ai 9 0 (.ci (.at 1 6) (.ci (.li 11) .n0))) (.li 0))
def ve1_143 : E := (.ti ve1_142 (.li 0) (.ai 9 0 (.ci (.ib .quo .i64 (.at 1 6) (.li 4)) (.ci (.li 9) .n0))))
def ve1_144 : E := (.ic .eql ve1_143 (.li 0))
def ve1_145 : E := (.ic .eql ve1_143 (.li 1))
def ve1_146 : E := (.ic .eql ve1_143 (.li 2))
def ve1_147 : E := (.ic .eql ve1_143 (.li 3))
def ve1_148 : E := (.ic .eql ve1_143 (.li 4))
def ve1_149 : E := (.ic .eql ve1_143 (.li 5))
def ve1_150 : E := (.ic .eql ve1_143 (.li 6))
def ve1_151 : E := (.ic .eql ve1_143 (.li 7))
def ve1_152 : E := (.ti ve1_142 (.li 0) (.ai 9 0 (.ci (.ib .quo .i64 (.at 1 6) (.li 40)) (.ci (.li 9) .n0))))
def ve1_153 : E := (.ic .eql ve1_152 (.li 0))
def ve1_154 : E := (.ic .eql ve1_152 (.li 1))
def ve1_155 : E := (.ic .eql ve1_152 (.li 2))
def ve1_156 : E := (.ic .eql ve1_152 (.li 3))
def ve1_157 : E := (.ic .eql ve1_152 (.li 4))
def ve1_158 : E := (.ic .eql ve1_152 (.li 5))
def ve1_159 : E := (.ic .eql ve1_152 (.li 6))
def ve1_160 : E := (.ic .eql ve1_152 (.li 7))
def ve1_161 : E := (.ib .add .i64 (.li 2) (.ai 9 0 (.ci (.at 1 6) (.ci (.li 3) .n0))))
def ve1_162 : E := (.ic .eql ve1_161 (.li 3))
def ve1_163 : E := (.ic .eql ve1_161 (.li 2))
def ve1_164 : E := (.ic .eql (.ai 9 0 (.ci (.at 1 6) (.ci (.li 7) .n0))) (.li 0))
def ve1_165 : E := (.tf ve1_142 (.fb .quo (.i2f (.ib .sub .i64 (.ai 9 0 (.ci (.ib .quo .i64 (.at 1 6) (.li 11)) (.ci (.li 33) .n0))) (.li 16))) (.lf 4620693217682128896)) (.lf 0))
def ve1_166 : E := (.ib .sub .i64 (.ib .sub .i64 (.li 9) ve1_1) (.li 7))
def ve1_167 : E := (.ic .eql ve1_166 (.li 0))
def ve1_168 : E := (.ic .eql ve1_166 (.li 1))
def ve1_169 : E := (.ib .sub .i64 (.ib .sub .i64 (.li 9) ve1_6) (.li 7))
def ve1_170 : E := (.ic .eql ve1_169 (.li 0))
def ve1_171 : E := (.ic .eql ve1_169 (.li 1))
def ve1_172 : E := (.ic .eql (.ai 9 0 (.ci (.at 1 7) (.ci (.li 11) .n0))) (.li 0))
def ve1_173 : E := (.ti ve1_172 (.li 0) (.ai 9 0 (.ci (.ib .quo .i64 (.at 1 7) (.li 4)) (.ci (.li 10) .n0))))
def ve1_174 : E := (.ic .eql ve1_173 (.li 0))
def ve1_175 : E := (.ic .eql ve1_173 (.li 1))
def ve1_176 : E := (.ic .eql ve1_173 (.li 2))
def ve1_177 : E := (.ic .eql ve1_173 (.li 3))
def ve1_178 : E := (.ic .eql ve1_173 (.li 4))
def ve1_179 : E := (.ic .eql ve1_173 (.li 5))
def ve1_180 : E := (.ic .eql ve1_173 (.li 6))
def ve1_181 : E := (.ic .eql ve1_173 (.li 7))
def ve1_182 : E := (.ic .eql ve1_173 (.li 8))
def ve1_183 : E := (.ti ve1_172 (.li 0) (.ai 9 0 (.ci (.ib .quo .i64 (.at 1 7) (.li 40)) (.ci (.li 10) .n0))))
def ve1_184 : E := (.ic .eql ve1_183 (.li 0))
def ve1_185 : E := (.ic .eql ve1_183 (.li 1))
def ve1_186 : E := (.ic .eql ve1_183 (.li 2))
def ve1_187 : E := (.ic .eql ve1_183 (.li 3))
def ve1_188 : E := (.ic .eql ve1_183 (.li 4))
def ve1_189 : E := (.ic .eql ve1_183 (.li 5))
def ve1_190 : E := (.ic .eql ve1_183 (.li 6))
def ve1_191 : E := (.ic .eql ve1_183 (.li 7))
def ve1_192 : E := (.ic .eql ve1_183 (.li 8))
def ve1_193 : E := (.ib .add .i64 (.li 2) (.ai 9 0 (.ci (.at 1 7) (.ci (.li 3) .n0))))
def ve1_194 : E := (.ic .eql ve1_193 (.li 3))
def ve1_195 : E := (.ic .eql ve1_193 (.li 2))
def ve1_196 : E := (.ic .eql (.ai 9 0 (.ci (.at 1 7) (.ci (.li 7) .n0))) (.li 0))
def ve1_197 : E := (.tf ve1_172 (.fb .quo (.i2f (.ib .sub .i64 (.ai 9 0 (.ci (.ib .quo .i64 (.at 1 7) (.li 11)) (.ci (.li 33) .n0))) (.li 16))) (.lf 4620693217682128896)) (.lf 0))
def ve1_198 : E := (.ib .sub .i64 (.ib .sub .i64 (.li 10) ve1_1) (.li 8))
def ve1_199 : E := (.ic .eql ve1_198 (.li 0))
def ve1_200 : E := (.ic .eql ve1_198 (.li 1))
def ve1_201 : E := (.ib .sub .i64 (.ib .sub .i64 (.li 10) ve1_6) (.li 8))
def ve1_202 : E := (.ic .eql ve1_201 (.li 0))
def ve1_203 : E := (.ic .eql ve1_201 (.li 1))
def vN1 : Nms := [(2001500142, 100, (.tf (.ic .eql ve1_2 (.li 0)) ve1_3 (.tf (.ic .eql ve1_2 (.li 1)) ve1_4 ve1_5))),
  (305897095, 101, (.tf (.ic .eql ve1_7 (.li 0)) ve1_3 (.tf (.ic .eql ve1_7 (.li 1)) ve1_4 ve1_5))),
  (2631736761, 102, (.tf (.ic .eql ve1_9 (.li 0)) ve1_3 (.tf (.ic .eql ve1_9 (.li 1)) ve1_4 ve1_5))),
  (1719569143, 103, (.tf (.ic .eql ve1_10 (.li 0)) ve1_3 (.tf (.ic .eql ve1_10 (.li 1)) ve1_4 ve1_5))),
  (3491297625, 104, (.tf ve1_12 (.fb .sub (.vf 102) (.vf 103)) (.fb .mul (.vf 102) (.vf 103)))),
  (2562448974, 105, (.tf ve1_13 (.fb .add (.vf 102) (.vf 103)) (.vf 104))),
  (2559015052, 106, (.tf ve1_14 (.fb .quo (.vf 102) (.vf 103)) (.vf 105))),
  (1220405727, 107, (.tf ve1_8 ve1_15 (.tf (.vb 2) (.vf 106) (.vf 105)))),
  (2370441078, 108, (.tf ve1_17 ve1_4 (.tf ve1_18 ve1_5 (.vf 107)))),
  (78478536, 109, (.tf ve1_20 ve1_4 (.tf ve1_21 ve1_5 (.vf 107)))),
  (631078626, 110, (.af 20 0 (.cf (.vf 102) (.cf (.vf 102) (.cf (.vf 103) (.cf (.vf 103) .n0)))))),
  (632078629, 111, (.af 20 1 (.cf (.vf 102) (.cf (.vf 102) (.cf (.vf 103) (.cf (.vf 103) .n0)))))),
  (4204667123, 112, (.af 21 0 (.cf (.vf 102) (.cf (.vf 102) (.cf (.vf 103) (.cf (.vf 103) .n0)))))),
  (4205667126, 113, (.af 21 1 (.cf (.vf 102) (.cf (.vf 102) (.cf (.vf 103) (.cf (.vf 103) .n0)))))),
  (3483288329, 114, (.af 22 0 (.cf (.vf 102) (.cf (.vf 102) (.cf (.vf 103) (.cf (.vf 103) .n0)))))),
  (3484288332, 115, (.af 22 1 (.cf (.vf 102) (.cf (.vf 102) (.cf (.vf 103) (.cf (.vf 103) .n0)))))),
  (4139447268, 116, (.tf ve1_12 (.vf 113) (.vf 115))),
  (4138447264, 117, (.tf ve1_12 (.vf 112) (.vf 114))),
  (1285237560, 118, (.tf ve1_13 (.vf 111) (.vf 116))),
  (1284237558, 119, (.tf ve1_13 (.vf 110) (.vf 117))),
  (2761909535, 120, (.af 23 0 (.cf (.vf 102) (.cf (.vf 102) (.cf (.vf 103) (.cf (.vf 103) .n0)))))),
  (2762909538, 121, (.af 23 1 (.cf (.vf 102) (.cf (.vf 102) (.cf (.vf 103) (.cf (.vf 103) .n0)))))),
  (342591026, 122, (.tf ve1_14 (.vf 121) (.vf 118))),
  (341591024, 123, (.tf ve1_14 (.vf 120) (.vf 119))),
  (1236405788, 124, (.tf ve1_8 ve1_15 (.tf (.vb 2) (.vf 122) (.vf 118)))),
  (1237405792, 125, (.tf ve1_8 ve1_15 (.tf (.vb 2) (.vf 123) (.vf 119)))),
  (2370441096, 126, (.tf ve1_17 ve1_4 (.tf ve1_18 ve1_5 (.vf 125)))),
  (2370441095, 127, (.tf ve1_17 ve1_4 (.tf ve1_18 ve1_5 (.vf 124)))),
  (78478554, 128, (.tf ve1_20 ve1_4 (.tf ve1_21 ve1_5 (.vf 125)))),
  (78478553, 129, (.tf ve1_20 ve1_4 (.tf ve1_21 ve1_5 (.vf 124)))),
  (3399051381, 130, (.tf ve1_24 ve1_3 (.tf ve1_25 ve1_4 (.tf ve1_26 ve1_5 (.vf 107))))),
  (2030799954, 131, (.tf ve1_28 ve1_3 (.tf ve1_29 ve1_4 (.tf ve1_30 ve1_5 (.vf 107))))),
  (1178401814, 132, (.tf ve1_32 (.fb .sub (.vf 130) (.vf 131)) (.fb .mul (.vf 130) (.vf 131)))),
  (221553079, 133, (.tf ve1_33 (.fb .add (.vf 130) (.vf 131)) (.vf 132))),
  (218119157, 134, (.tf ve1_34 (.fb .quo (.vf 130) (.vf 131)) (.vf 133))),
  (557076668, 135, (.tf ve1_22 ve1_35 (.tf (.vb 2) (.vf 134) (.vf 133)))),
  (591144719, 136, (.tf ve1_37 ve1_5 (.tf ve1_38 (.vf 107) (.vf 135)))),
  (2594149468, 137, (.tf ve1_40 ve1_5 (.tf ve1_41 (.vf 107) (.vf 135)))),
  (3399051399, 138, (.tf ve1_24 ve1_3 (.tf ve1_25 ve1_4 (.tf ve1_26 ve1_5 (.vf 125))))),
  (3399051398, 139, (.tf ve1_24 ve1_3 (.tf ve1_25 ve1_4 (.tf ve1_26 ve1_5 (.vf 124))))),
  (2030799972, 140, (.tf ve1_28 ve1_3 (.tf ve1_29 ve1_4 (.tf ve1_30 ve1_5 (.vf 125))))),
  (2030799971, 141, (.tf ve1_28 ve1_3 (.tf ve1_29 ve1_4 (.tf ve1_30 ve1_5 (.vf 124))))),
  (779079070, 142, (.af 20 0 (.cf (.vf 138) (.cf (.vf 139) (.cf (.vf 140) (.cf (.vf 141) .n0)))))),
  (780079073, 143, (.af 20 1 (.cf (.vf 138) (.cf (.vf 139) (.cf (.vf 140) (.cf (.vf 141) .n0)))))),
  (57700276, 144, (.af 21 0 (.cf (.vf 138) (.cf (.vf 139) (.cf (.vf 140) (.cf (.vf 141) .n0)))))),
  (58700279, 145, (.af 21 1 (.cf (.vf 138) (.cf (.vf 139) (.cf (.vf 140) (.cf (.vf 141) .n0)))))),
  (3631288773, 146, (.af 22 0 (.cf (.vf 138) (.cf (.vf 139) (.cf (.vf 140) (.cf (.vf 141) .n0)))))),
  (3632288776, 147, (.af 22 1 (.cf (.vf 138) (.cf (.vf 139) (.cf (.vf 140) (.cf (.vf 141) .n0)))))),
  (526321166, 148, (.tf ve1_32 (.vf 145) (.vf 147))),
  (525321162, 149, (.tf ve1_32 (.vf 144) (.vf 146))),
  (1967078749, 150, (.tf ve1_33 (.vf 143) (.vf 148))),
  (1966078747, 151, (.tf ve1_33 (.vf 142) (.vf 149))),
  (2909909979, 152, (.af 23 0 (.cf (.vf 138) (.cf (.vf 139) (.cf (.vf 140) (.cf (.vf 141) .n0)))))),
  (2910909982, 153, (.af 23 1 (.cf (.vf 138) (.cf (.vf 139) (.cf (.vf 140) (.cf (.vf 141) .n0)))))),
  (1024432215, 154, (.tf ve1_34 (.vf 153) (.vf 150))),
  (1023432213, 155, (.tf ve1_34 (.vf 152) (.vf 151))),
  (577076745, 156, (.tf ve1_22 ve1_35 (.tf (.vb 2) (.vf 154) (.vf 150)))),
  (578076749, 157, (.tf ve1_22 ve1_35 (.tf (.vb 2) (.vf 155) (.vf 151)))),
  (609144795, 158, (.tf ve1_37 ve1_5 (.tf ve1_38 (.vf 125) (.vf 157)))),
  (608144791, 159, (.tf ve1_37 ve1_5 (.tf ve1_38 (.vf 124) (.vf 156)))),
  (2612149544, 160, (.tf ve1_40 ve1_5 (.tf ve1_41 (.vf 125) (.vf 157)))),
  (2611149540, 161, (.tf ve1_40 ve1_5 (.tf ve1_41 (.vf 124) (.vf 156)))),
  (2353484716, 162, (.tf ve1_44 ve1_3 (.tf ve1_45 ve1_4 (.tf ve1_46 ve1_5 (.tf ve1_47 (.vf 107) (.vf 135)))))),
  (529149480, 163, (.tf ve1_49 ve1_3 (.tf ve1_50 ve1_4 (.tf ve1_51 ve1_5 (.tf ve1_52 (.vf 107) (.vf 135)))))),
  (282958146, 164, (.tf ve1_54 (.fb .sub (.vf 162) (.vf 163)) (.fb .mul (.vf 162) (.vf 163)))),
  (3589076606, 165, (.tf ve1_55 (.fb .add (.vf 162) (.vf 163)) (.vf 164))),
  (3585642684, 166, (.tf ve1_56 (.fb .quo (.vf 162) (.vf 163)) (.vf 165))),
  (4192714916, 167, (.tf ve1_42 ve1_57 (.tf (.vb 2) (.vf 166) (.vf 165)))),
  (274442893, 168, (.tf ve1_59 (.vf 107) (.tf ve1_60 (.vf 135) (.vf 167)))),
  (2277447642, 169, (.tf ve1_62 (.vf 107) (.tf ve1_63 (.vf 135) (.vf 167)))),
  (2371484792, 170, (.tf ve1_44 ve1_3 (.tf ve1_45 ve1_4 (.tf ve1_46 ve1_5 (.tf ve1_47 (.vf 125) (.vf 157)))))),
  (2370484788, 171, (.tf ve1_44 ve1_3 (.tf ve1_45 ve1_4 (.tf ve1_46 ve1_5 (.tf ve1_47 (.vf 124) (.vf 156)))))),
  (547149556, 172, (.tf ve1_49 ve1_3 (.tf ve1_50 ve1_4 (.tf ve1_51 ve1_5 (.tf ve1_52 (.vf 125) (.vf 157)))))),
  (546149552, 173, (.tf ve1_49 ve1_3 (.tf ve1_50 ve1_4 (.tf ve1_51 ve1_5 (.tf ve1_52 (.vf 124) (.vf 156)))))),
  (907079454, 174, (.af 20 0 (.cf (.vf 170) (.cf (.vf 171) (.cf (.vf 172) (.cf (.vf 173) .n0)))))),
  (908079457, 175, (.af 20 1 (.cf (.vf 170) (.cf (.vf 171) (.cf (.vf 172) (.cf (.vf 173) .n0)))))),
  (185700660, 176, (.af 21 0 (.cf (.vf 170) (.cf (.vf 171) (.cf (.vf 172) (.cf (.vf 173) .n0)))))),
  (186700663, 177, (.af 21 1 (.cf (.vf 170) (.cf (.vf 171) (.cf (.vf 172) (.cf (.vf 173) .n0)))))),
  (3759289157, 178, (.af 22 0 (.cf (.vf 170) (.cf (.vf 171) (.cf (.vf 172) (.cf (.vf 173) .n0)))))),
  (3760289160, 179, (.af 22 1 (.cf (.vf 170) (.cf (.vf 171) (.cf (.vf 172) (.cf (.vf 173) .n0)))))),
  (1208162355, 180, (.tf ve1_54 (.vf 177) (.vf 179))),
  (1207162351, 181, (.tf ve1_54 (.vf 176) (.vf 178))),
  (2648919938, 182, (.tf ve1_55 (.vf 175) (.vf 180))),
  (2647919936, 183, (.tf ve1_55 (.vf 174) (.vf 181))),
  (3037910363, 184, (.af 23 0 (.cf (.vf 170) (.cf (.vf 171) (.cf (.vf 172) (.cf (.vf 173) .n0)))))),
  (3038910366, 185, (.af 23 1 (.cf (.vf 170) (.cf (.vf 171) (.cf (.vf 172) (.cf (.vf 173) .n0)))))),
  (1706273404, 186, (.tf ve1_56 (.vf 185) (.vf 182))),
  (1705273402, 187, (.tf ve1_56 (.vf 184) (.vf 183))),
  (4212714993, 188, (.tf ve1_42 ve1_57 (.tf (.vb 2) (.vf 186) (.vf 182)))),
  (4213714997, 189, (.tf ve1_42 ve1_57 (.tf (.vb 2) (.vf 187) (.vf 183)))),
  (314443035, 190, (.tf ve1_59 (.vf 125) (.tf ve1_60 (.vf 157) (.vf 189)))),
  (312443028, 191, (.tf ve1_59 (.vf 124) (.tf ve1_60 (.vf 156) (.vf 188)))),
  (2317447784, 192, (.tf ve1_62 (.vf 125) (.tf ve1_63 (.vf 157) (.vf 189)))),
  (2315447777, 193, (.tf ve1_62 (.vf 124) (.tf ve1_63 (.vf 156) (.vf 188)))),
  (3179031428, 194, (.tf ve1_66 ve1_3 (.tf ve1_67 ve1_4 (.tf ve1_68 ve1_5 (.tf ve1_69 (.vf 107) (.tf ve1_70 (.vf 135) (.vf 167))))))),
  (898612383, 195, (.tf ve1_72 ve1_3 (.tf ve1_73 ve1_4 (.tf ve1_74 ve1_5 (.tf ve1_75 (.vf 107) (.tf ve1_76 (.vf 135) (.vf 167))))))),
  (3682481769, 196, (.tf ve1_78 (.fb .sub (.vf 194) (.vf 195)) (.fb .mul (.vf 194) (.vf 195)))),
  (2661632842, 197, (.tf ve1_79 (.fb .add (.vf 194) (.vf 195)) (.vf 196))),
  (2658198920, 198, (.tf ve1_80 (.fb .quo (.vf 194) (.vf 195)) (.vf 197))),
  (3533385873, 199, (.tf ve1_64 ve1_81 (.tf (.vb 2) (.vf 198) (.vf 197)))),
  (739753184, 200, (.tf ve1_83 (.vf 135) (.tf ve1_84 (.vf 167) (.vf 199)))),
  (2742757933, 201, (.tf ve1_86 (.vf 135) (.tf ve1_87 (.vf 167) (.vf 199)))),
  (3219031570, 202, (.tf ve1_66 ve1_3 (.tf ve1_67 ve1_4 (.tf ve1_68 ve1_5 (.tf ve1_69 (.vf 125) (.tf ve1_70 (.vf 157) (.vf 189))))))),
  (3217031563, 203, (.tf ve1_66 ve1_3 (.tf ve1_67 ve1_4 (.tf ve1_68 ve1_5 (.tf ve1_69 (.vf 124) (.tf ve1_70 (.vf 156) (.vf 188))))))),
  (938612525, 204, (.tf ve1_72 ve1_3 (.tf ve1_73 ve1_4 (.tf ve1_74 ve1_5 (.tf ve1_75 (.vf 125) (.tf ve1_76 (.vf 157) (.vf 189))))))),
  (936612518, 205, (.tf ve1_72 ve1_3 (.tf ve1_73 ve1_4 (.tf ve1_74 ve1_5 (.tf ve1_75 (.vf 124) (.tf ve1_76 (.vf 156) (.vf 188))))))),
  (1035079838, 206, (.af 20 0 (.cf (.vf 202) (.cf (.vf 203) (.cf (.vf 204) (.cf (.vf 205) .n0)))))),
  (1036079841, 207, (.af 20 1 (.cf (.vf 202) (.cf (.vf 203) (.cf (.vf 204) (.cf (.vf 205) .n0)))))),
  (313701044, 208, (.af 21 0 (.cf (.vf 202) (.cf (.vf 203) (.cf (.vf 204) (.cf (.vf 205) .n0)))))),
  (314701047, 209, (.af 21 1 (.cf (.vf 202) (.cf (.vf 203) (.cf (.vf 204) (.cf (.vf 205) .n0)))))),
  (3887289541, 210, (.af 22 0 (.cf (.vf 202) (.cf (.vf 203) (.cf (.vf 204) (.cf (.vf 205) .n0)))))),
  (3888289544, 211, (.af 22 1 (.cf (.vf 202) (.cf (.vf 203) (.cf (.vf 204) (.cf (.vf 205) .n0)))))),
  (1890003544, 212, (.tf ve1_78 (.vf 209) (.vf 211))),
  (1889003540, 213, (.tf ve1_78 (.vf 208) (.vf 210))),
  (3330761127, 214, (.tf ve1_79 (.vf 207) (.vf 212))),
  (3329761125, 215, (.tf ve1_79 (.vf 206) (.vf 213))),
  (3165910747, 216, (.af 23 0 (.cf (.vf 202) (.cf (.vf 203) (.cf (.vf 204) (.cf (.vf 205) .n0)))))),
  (3166910750, 217, (.af 23 1 (.cf (.vf 202) (.cf (.vf 203) (.cf (.vf 204) (.cf (.vf 205) .n0)))))),
  (2388114593, 218, (.tf ve1_80 (.vf 217) (.vf 214))),
  (2387114591, 219, (.tf ve1_80 (.vf 216) (.vf 215))),
  (3553385950, 220, (.tf ve1_64 ve1_81 (.tf (.vb 2) (.vf 218) (.vf 214)))),
  (3554385954, 221, (.tf ve1_64 ve1_81 (.tf (.vb 2) (.vf 219) (.vf 215)))),
  (783753338, 222, (.tf ve1_83 (.vf 157) (.tf ve1_84 (.vf 189) (.vf 221)))),
  (781753331, 223, (.tf ve1_83 (.vf 156) (.tf ve1_84 (.vf 188) (.vf 220)))),
  (2786758087, 224, (.tf ve1_86 (.vf 157) (.tf ve1_87 (.vf 189) (.vf 221)))),
  (2784758080, 225, (.tf ve1_86 (.vf 156) (.tf ve1_87 (.vf 188) (.vf 220)))),
  (1584724234, 226, (.tf ve1_90 ve1_3 (.tf ve1_91 ve1_4 (.tf ve1_92 ve1_5 (.tf ve1_93 (.vf 107) (.tf ve1_94 (.vf 135) (.tf ve1_95 (.vf 167) (.vf 199)))))))),
  (3143188671, 227, (.tf ve1_97 ve1_3 (.tf ve1_98 ve1_4 (.tf ve1_99 ve1_5 (.tf ve1_100 (.vf 107) (.tf ve1_101 (.vf 135) (.tf ve1_102 (.vf 167) (.vf 199)))))))),
  (2787038101, 228, (.tf ve1_104 (.fb .sub (.vf 226) (.vf 227)) (.fb .mul (.vf 226) (.vf 227)))),
  (1734189078, 229, (.tf ve1_105 (.fb .add (.vf 226) (.vf 227)) (.vf 228))),
  (1730755156, 230, (.tf ve1_106 (.fb .quo (.vf 226) (.vf 227)) (.vf 229))),
  (2874056830, 231, (.tf ve1_88 ve1_107 (.tf (.vb 2) (.vf 230) (.vf 229)))),
  (1209063487, 232, (.tf ve1_109 (.vf 167) (.tf ve1_110 (.vf 199) (.vf 231)))),
  (3212068236, 233, (.tf ve1_112 (.vf 167) (.tf ve1_113 (.vf 199) (.vf 231)))),
  (1646724442, 234, (.tf ve1_90 ve1_3 (.tf ve1_91 ve1_4 (.tf ve1_92 ve1_5 (.tf ve1_93 (.vf 125) (.tf ve1_94 (.vf 157) (.tf ve1_95 (.vf 189) (.vf 221)))))))),
  (1643724432, 235, (.tf ve1_90 ve1_3 (.tf ve1_91 ve1_4 (.tf ve1_92 ve1_5 (.tf ve1_93 (.vf 124) (.tf ve1_94 (.vf 156) (.tf ve1_95 (.vf 188) (.vf 220)))))))),
  (3205188879, 236, (.tf ve1_97 ve1_3 (.tf ve1_98 ve1_4 (.tf ve1_99 ve1_5 (.tf ve1_100 (.vf 125) (.tf ve1_101 (.vf 157) (.tf ve1_102 (.vf 189) (.vf 221)))))))),
  (3202188869, 237, (.tf ve1_97 ve1_3 (.tf ve1_98 ve1_4 (.tf ve1_99 ve1_5 (.tf ve1_100 (.vf 124) (.tf ve1_101 (.vf 156) (.tf ve1_102 (.vf 188) (.vf 220)))))))),
  (1163080222, 238, (.af 20 0 (.cf (.vf 234) (.cf (.vf 235) (.cf (.vf 236) (.cf (.vf 237) .n0)))))),
  (1164080225, 239, (.af 20 1 (.cf (.vf 234) (.cf (.vf 235) (.cf (.vf 236) (.cf (.vf 237) .n0)))))),
  (441701428, 240, (.af 21 0 (.cf (.vf 234) (.cf (.vf 235) (.cf (.vf 236) (.cf (.vf 237) .n0)))))),
  (442701431, 241, (.af 21 1 (.cf (.vf 234) (.cf (.vf 235) (.cf (.vf 236) (.cf (.vf 237) .n0)))))),
  (4015289925, 242, (.af 22 0 (.cf (.vf 234) (.cf (.vf 235) (.cf (.vf 236) (.cf (.vf 237) .n0)))))),
  (4016289928, 243, (.af 22 1 (.cf (.vf 234) (.cf (.vf 235) (.cf (.vf 236) (.cf (.vf 237) .n0)))))),
  (2571844733, 244, (.tf ve1_104 (.vf 241) (.vf 243))),
  (2570844729, 245, (.tf ve1_104 (.vf 240) (.vf 242))),
  (4012602316, 246, (.tf ve1_105 (.vf 239) (.vf 244))),
  (4011602314, 247, (.tf ve1_105 (.vf 238) (.vf 245))),
  (3293911131, 248, (.af 23 0 (.cf (.vf 234) (.cf (.vf 235) (.cf (.vf 236) (.cf (.vf 237) .n0)))))),
  (3294911134, 249, (.af 23 1 (.cf (.vf 234) (.cf (.vf 235) (.cf (.vf 236) (.cf (.vf 237) .n0)))))),
  (3069955782, 250, (.tf ve1_106 (.vf 249) (.vf 246))),
  (3068955780, 251, (.tf ve1_106 (.vf 248) (.vf 247))),
  (2894056907, 252, (.tf ve1_88 ve1_107 (.tf (.vb 2) (.vf 250) (.vf 246)))),
  (2895056911, 253, (.tf ve1_88 ve1_107 (.tf (.vb 2) (.vf 251) (.vf 247)))),
  (1253063641, 254, (.tf ve1_109 (.vf 189) (.tf ve1_110 (.vf 221) (.vf 253)))),
  (1251063634, 255, (.tf ve1_109 (.vf 188) (.tf ve1_110 (.vf 220) (.vf 252)))),
  (3256068390, 256, (.tf ve1_112 (.vf 189) (.tf ve1_113 (.vf 221) (.vf 253)))),
  (3254068383, 257, (.tf ve1_112 (.vf 188) (.tf ve1_113 (.vf 220) (.vf 252)))),
  (1865530425, 258, (.tf ve1_116 ve1_3 (.tf ve1_117 ve1_4 (.tf ve1_118 ve1_5 (.tf ve1_119 (.vf 107) (.tf ve1_120 (.vf 135) (.tf ve1_121 (.vf 167) (.tf ve1_122 (.vf 199) (.vf 231))))))))),
  (2967911053, 259, (.tf ve1_124 ve1_3 (.tf ve1_125 ve1_4 (.tf ve1_126 ve1_5 (.tf ve1_127 (.vf 107) (.tf ve1_128 (.vf 135) (.tf ve1_129 (.vf 167) (.tf ve1_130 (.vf 199) (.vf 231))))))))),
  (1891594433, 260, (.tf ve1_132 (.fb .sub (.vf 258) (.vf 259)) (.fb .mul (.vf 258) (.vf 259)))),
  (806745314, 261, (.tf ve1_133 (.fb .add (.vf 258) (.vf 259)) (.vf 260))),
  (803311392, 262, (.tf ve1_134 (.fb .quo (.vf 258) (.vf 259)) (.vf 261))),
  (2214727787, 263, (.tf ve1_114 ve1_135 (.tf (.vb 2) (.vf 262) (.vf 261)))),
  (1678373790, 264, (.tf ve1_137 (.vf 199) (.tf ve1_138 (.vf 231) (.vf 263)))),
  (3681378539, 265, (.tf ve1_140 (.vf 199) (.tf ve1_141 (.vf 231) (.vf 263)))),
  (1949530699, 266, (.tf ve1_116 ve1_3 (.tf ve1_117 ve1_4 (.tf ve1_118 ve1_5 (.tf ve1_119 (.vf 125) (.tf ve1_120 (.vf 157) (.tf ve1_121 (.vf 189) (.tf ve1_122 (.vf 221) (.vf 253))))))))),
  (1945530686, 267, (.tf ve1_116 ve1_3 (.tf ve1_117 ve1_4 (.tf ve1_118 ve1_5 (.tf ve1_119 (.vf 124) (.tf ve1_120 (.vf 156) (.tf ve1_121 (.vf 188) (.tf ve1_122 (.vf 220) (.vf 252))))))))),
  (3051911327, 268, (.tf ve1_124 ve1_3 (.tf ve1_125 ve1_4 (.tf ve1_126 ve1_5 (.tf ve1_127 (.vf 125) (.tf ve1_128 (.vf 157) (.tf ve1_129 (.vf 189) (.tf ve1_130 (.vf 221) (.vf 253))))))))),
  (3047911314, 269, (.tf ve1_124 ve1_3 (.tf ve1_125 ve1_4 (.tf ve1_126 ve1_5 (.tf ve1_127 (.vf 124) (.tf ve1_128 (.vf 156) (.tf ve1_129 (.vf 188) (.tf ve1_130 (.vf 220) (.vf 252))))))))),
  (1291080606, 270, (.af 20 0 (.cf (.vf 266) (.cf (.vf 267) (.cf (.vf 268) (.cf (.vf 269) .n0)))))),
  (1292080609, 271, (.af 20 1 (.cf (.vf 266) (.cf (.vf 267) (.cf (.vf 268) (.cf (.vf 269) .n0)))))),
  (569701812, 272, (.af 21 0 (.cf (.vf 266) (.cf (.vf 267) (.cf (.vf 268) (.cf (.vf 269) .n0)))))),
  (570701815, 273, (.af 21 1 (.cf (.vf 266) (.cf (.vf 267) (.cf (.vf 268) (.cf (.vf 269) .n0)))))),
  (4143290309, 274, (.af 22 0 (.cf (.vf 266) (.cf (.vf 267) (.cf (.vf 268) (.cf (.vf 269) .n0)))))),
  (4144290312, 275, (.af 22 1 (.cf (.vf 266) (.cf (.vf 267) (.cf (.vf 268) (.cf (.vf 269) .n0)))))),
  (3253685922, 276, (.tf ve1_132 (.vf 273) (.vf 275))),
  (3252685918, 277, (.tf ve1_132 (.vf 272) (.vf 274))),
  (399476214, 278, (.tf ve1_133 (.vf 271) (.vf 276))),
  (398476212, 279, (.tf ve1_133 (.vf 270) (.vf 277))),
  (3421911515, 280, (.af 23 0 (.cf (.vf 266) (.cf (.vf 267) (.cf (.vf 268) (.cf (.vf 269) .n0)))))),
  (3422911518, 281, (.af 23 1 (.cf (.vf 266) (.cf (.vf 267) (.cf (.vf 268) (.cf (.vf 269) .n0)))))),
  (3751796971, 282, (.tf ve1_134 (.vf 281) (.vf 278))),
  (3750796969, 283, (.tf ve1_134 (.vf 280) (.vf 279))),
  (2234727864, 284, (.tf ve1_114 ve1_135 (.tf (.vb 2) (.vf 282) (.vf 278)))),
  (2235727868, 285, (.tf ve1_114 ve1_135 (.tf (.vb 2) (.vf 283) (.vf 279)))),
  (1722373944, 286, (.tf ve1_137 (.vf 221) (.tf ve1_138 (.vf 253) (.vf 285)))),
  (1720373937, 287, (.tf ve1_137 (.vf 220) (.tf ve1_138 (.vf 252) (.vf 284)))),
  (3725378693, 288, (.tf ve1_140 (.vf 221) (.tf ve1_141 (.vf 253) (.vf 285)))),
  (3723378686, 289, (.tf ve1_140 (.vf 220) (.tf ve1_141 (.vf 252) (.vf 284)))),
  (4021450001, 290, (.tf ve1_144 ve1_3 (.tf ve1_145 ve1_4 (.tf ve1_146 ve1_5 (.tf ve1_147 (.vf 107) (.tf ve1_148 (.vf 135) (.tf ve1_149 (.vf 167) (.tf ve1_150 (.vf 199) (.tf ve1_151 (.vf 231) (.vf 263)))))))))),
  (372779529, 291, (.tf ve1_153 ve1_3 (.tf ve1_154 ve1_4 (.tf ve1_155 ve1_5 (.tf ve1_156 (.vf 107) (.tf ve1_157 (.vf 135) (.tf ve1_158 (.vf 167) (.tf ve1_159 (.vf 199) (.tf ve1_160 (.vf 231) (.vf 263)))))))))),
  (996150765, 292, (.tf ve1_162 (.fb .sub (.vf 290) (.vf 291)) (.fb .mul (.vf 290) (.vf 291)))),
  (4174268841, 293, (.tf ve1_163 (.fb .add (.vf 290) (.vf 291)) (.vf 292))),
  (4170834919, 294, (.tf ve1_164 (.fb .quo (.vf 290) (.vf 291)) (.vf 293))),
  (1555398744, 295, (.tf ve1_142 ve1_165 (.tf (.vb 2) (.vf 294) (.vf 293)))),
  (2147684093, 296, (.tf ve1_167 (.vf 231) (.tf ve1_168 (.vf 263) (.vf 295)))),
  (4150688842, 297, (.tf ve1_170 (.vf 231) (.tf ve1_171 (.vf 263) (.vf 295)))),
  (4127450341, 298, (.tf ve1_144 ve1_3 (.tf ve1_145 ve1_4 (.tf ve1_146 ve1_5 (.tf ve1_147 (.vf 125) (.tf ve1_148 (.vf 157) (.tf ve1_149 (.vf 189) (.tf ve1_150 (.vf 221) (.tf ve1_151 (.vf 253) (.vf 285)))))))))),
  (4122450325, 299, (.tf ve1_144 ve1_3 (.tf ve1_145 ve1_4 (.tf ve1_146 ve1_5 (.tf ve1_147 (.vf 124) (.tf ve1_148 (.vf 156) (.tf ve1_149 (.vf 188) (.tf ve1_150 (.vf 220) (.tf ve1_151 (.vf 252) (.vf 284)))))))))),
  (478779869, 300, (.tf ve1_153 ve1_3 (.tf ve1_154 ve1_4 (.tf ve1_155 ve1_5 (.tf ve1_156 (.vf 125) (.tf ve1_157 (.vf 157) (.tf ve1_158 (.vf 189) (.tf ve1_159 (.vf 221) (.tf ve1_160 (.vf 253) (.vf 285)))))))))),
  (473779853, 301, (.tf ve1_153 ve1_3 (.tf ve1_154 ve1_4 (.tf ve1_155 ve1_5 (.tf ve1_156 (.vf 124) (.tf ve1_157 (.vf 156) (.tf ve1_158 (.vf 188) (.tf ve1_159 (.vf 220) (.tf ve1_160 (.vf 252) (.vf 284)))))))))),
  (1419080990, 302, (.af 20 0 (.cf (.vf 298) (.cf (.vf 299) (.cf (.vf 300) (.cf (.vf 301) .n0)))))),
  (1420080993, 303, (.af 20 1 (.cf (.vf 298) (.cf (.vf 299) (.cf (.vf 300) (.cf (.vf 301) .n0)))))),
  (697702196, 304, (.af 21 0 (.cf (.vf 298) (.cf (.vf 299) (.cf (.vf 300) (.cf (.vf 301) .n0)))))),
  (698702199, 305, (.af 21 1 (.cf (.vf 298) (.cf (.vf 299) (.cf (.vf 300) (.cf (.vf 301) .n0)))))),
  (4271290693, 306, (.af 22 0 (.cf (.vf 298) (.cf (.vf 299) (.cf (.vf 300) (.cf (.vf 301) .n0)))))),
  (4272290696, 307, (.af 22 1 (.cf (.vf 298) (.cf (.vf 299) (.cf (.vf 300) (.cf (.vf 301) .n0)))))),
  (3935527111, 308, (.tf ve1_162 (.vf 305) (.vf 307))),
  (3934527107, 309, (.tf ve1_162 (.vf 304) (.vf 306))),
  (1081317403, 310, (.tf ve1_163 (.vf 303) (.vf 308))),
  (1080317401, 311, (.tf ve1_163 (.vf 302) (.vf 309))),
  (3549911899, 312, (.af 23 0 (.cf (.vf 298) (.cf (.vf 299) (.cf (.vf 300) (.cf (.vf 301) .n0)))))),
  (3550911902, 313, (.af 23 1 (.cf (.vf 298) (.cf (.vf 299) (.cf (.vf 300) (.cf (.vf 301) .n0)))))),
  (138670869, 314, (.tf ve1_164 (.vf 313) (.vf 310))),
  (137670867, 315, (.tf ve1_164 (.vf 312) (.vf 311))),
  (1575398821, 316, (.tf ve1_142 ve1_165 (.tf (.vb 2) (.vf 314) (.vf 310)))),
  (1576398825, 317, (.tf ve1_142 ve1_165 (.tf (.vb 2) (.vf 315) (.vf 311)))),
  (2191684247, 318, (.tf ve1_167 (.vf 253) (.tf ve1_168 (.vf 285) (.vf 317)))),
  (2189684240, 319, (.tf ve1_167 (.vf 252) (.tf ve1_168 (.vf 284) (.vf 316)))),
  (4194688996, 320, (.tf ve1_170 (.vf 253) (.tf ve1_171 (.vf 285) (.vf 317)))),
  (4192688989, 321, (.tf ve1_170 (.vf 252) (.tf ve1_171 (.vf 284) (.vf 316)))),
  (3757515671, 322, (.tf ve1_174 ve1_3 (.tf ve1_175 ve1_4 (.tf ve1_176 ve1_5 (.tf ve1_177 (.vf 107) (.tf ve1_178 (.vf 135) (.tf ve1_179 (.vf 167) (.tf ve1_180 (.vf 199) (.tf ve1_181 (.vf 231) (.tf ve1_182 (.vf 263) (.vf 295))))))))))),
  (3947728681, 323, (.tf ve1_184 ve1_3 (.tf ve1_185 ve1_4 (.tf ve1_186 ve1_5 (.tf ve1_187 (.vf 107) (.tf ve1_188 (.vf 135) (.tf ve1_189 (.vf 167) (.tf ve1_190 (.vf 199) (.tf ve1_191 (.vf 231) (.tf ve1_192 (.vf 263) (.vf 295))))))))))),
  (100707097, 324, (.tf ve1_194 (.fb .sub (.vf 322) (.vf 323)) (.fb .mul (.vf 322) (.vf 323)))),
  (3246825077, 325, (.tf ve1_195 (.fb .add (.vf 322) (.vf 323)) (.vf 324))),
  (3243391155, 326, (.tf ve1_196 (.fb .quo (.vf 322) (.vf 323)) (.vf 325))),
  (896069701, 327, (.tf ve1_172 ve1_197 (.tf (.vb 2) (.vf 326) (.vf 325)))),
  (2616994396, 328, (.tf ve1_199 (.vf 263) (.tf ve1_200 (.vf 295) (.vf 327)))),
  (325031854, 329, (.tf ve1_202 (.vf 263) (.tf ve1_203 (.vf 295) (.vf 327)))),
  (3885516077, 330, (.tf ve1_174 ve1_3 (.tf ve1_175 ve1_4 (.tf ve1_176 ve1_5 (.tf ve1_177 (.vf 125) (.tf ve1_178 (.vf 157) (.tf ve1_179 (.vf 189) (.tf ve1_180 (.vf 221) (.tf ve1_181 (.vf 253) (.tf ve1_182 (.vf 285) (.vf 317))))))))))),
  (3879516058, 331, (.tf ve1_174 ve1_3 (.tf ve1_175 ve1_4 (.tf ve1_176 ve1_5 (.tf ve1_177 (.vf 124) (.tf ve1_178 (.vf 156) (.tf ve1_179 (.vf 188) (.tf ve1_180 (.vf 220) (.tf ve1_181 (.vf 252) (.tf ve1_182 (.vf 284) (.vf 316))))))))))),
  (4075729087, 332, (.tf ve1_184 ve1_3 (.tf ve1_185 ve1_4 (.tf ve1_186 ve1_5 (.tf ve1_187 (.vf 125) (.tf ve1_188 (.vf 157) (.tf ve1_189 (.vf 189) (.tf ve1_190 (.vf 221) (.tf ve1_191 (.vf 253) (.tf ve1_192 (.vf 285) (.vf 317))))))))))),
  (4069729068, 333, (.tf ve1_184 ve1_3 (.tf ve1_185 ve1_4 (.tf ve1_186 ve1_5 (.tf ve1_187 (.vf 124) (.tf ve1_188 (.vf 156) (.tf ve1_189 (.vf 188) (.tf ve1_190 (.vf 220) (.tf ve1_191 (.vf 252) (.tf ve1_192 (.vf 284) (.vf 316))))))))))),
  (1547081374, 334, (.af 20 0 (.cf (.vf 330) (.cf (.vf 331) (.cf (.vf 332) (.cf (.vf 333) .n0)))))),
  (1548081377, 335, (.af 20 1 (.cf (.vf 330) (.cf (.vf 331) (.cf (.vf 332) (.cf (.vf 333) .n0)))))),
  (825702580, 336, (.af 21 0 (.cf (.vf 330) (.cf (.vf 331) (.cf (.vf 332) (.cf (.vf 333) .n0)))))),
  (826702583, 337, (.af 21 1 (.cf (.vf 330) (.cf (.vf 331) (.cf (.vf 332) (.cf (.vf 333) .n0)))))),
  (104323786, 338, (.af 22 0 (.cf (.vf 330) (.cf (.vf 331) (.cf (.vf 332) (.cf (.vf 333) .n0)))))),
  (105323789, 339, (.af 22 1 (.cf (.vf 330) (.cf (.vf 331) (.cf (.vf 332) (.cf (.vf 333) .n0)))))),
  (322401009, 340, (.tf ve1_194 (.vf 337) (.vf 339))),
  (321401005, 341, (.tf ve1_194 (.vf 336) (.vf 338))),
  (1763158592, 342, (.tf ve1_195 (.vf 335) (.vf 340))),
  (1762158590, 343, (.tf ve1_195 (.vf 334) (.vf 341))),
  (3677912283, 344, (.af 23 0 (.cf (.vf 330) (.cf (.vf 331) (.cf (.vf 332) (.cf (.vf 333) .n0)))))),
  (3678912286, 345, (.af 23 1 (.cf (.vf 330) (.cf (.vf 331) (.cf (.vf 332) (.cf (.vf 333) .n0)))))),
  (820512058, 346, (.tf ve1_196 (.vf 345) (.vf 342))),
  (819512056, 347, (.tf ve1_196 (.vf 344) (.vf 343))),
  (916069778, 348, (.tf ve1_172 ve1_197 (.tf (.vb 2) (.vf 346) (.vf 342)))),
  (917069782, 349, (.tf ve1_172 ve1_197 (.tf (.vb 2) (.vf 347) (.vf 343)))),
  (2660994550, 350, (.tf ve1_199 (.vf 285) (.tf ve1_200 (.vf 317) (.vf 349)))),
  (2658994543, 351, (.tf ve1_199 (.vf 284) (.tf ve1_200 (.vf 316) (.vf 348)))),
  (369032008, 352, (.tf ve1_202 (.vf 285) (.tf ve1_203 (.vf 317) (.vf 349)))),
  (367032001, 353, (.tf ve1_202 (.vf 284) (.tf ve1_203 (.vf 316) (.vf 348))))]
set_option maxRecDepth 1000000 in
set_option maxHeartbeats 100000000 in
theorem vG1 : tabGood 100 vN1 = true := by kernel_rfl
end Go.Proofs.Ytilhcamdjehpnaa
