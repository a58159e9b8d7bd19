/-
  'TapeHolds': what names stand for, where the first rest is 1.
-/
import Derived.Test.YtilhcamdjehpnaaM3s
namespace Go.Proofs.Ytilhcamdjehpnaa
open Go.RowKit Ex
def xe1_0 : E := (.ib .add .i64 (.li 2) (.ai 9 0 (.ci (.at 1 0) (.ci (.li 3) .n0))))
def xe1_1 : E := (.ic .eql xe1_0 (.li 3))
def xe1_2 : E := (.ic .eql (.ai 9 0 (.ci (.at 1 0) (.ci (.li 11) .n0))) (.li 0))
def xe1_3 : E := (.ti xe1_2 (.li 0) (.ai 9 0 (.ci (.ib .quo .i64 (.at 1 0) (.li 4)) (.ci (.li 3) .n0))))
def xe1_4 : E := (.ic .eql xe1_3 (.li 0))
def xe1_5 : E := (.i2f (.ib .sub .i64 (.ai 9 0 (.ci (.ti (.ic .lss (.li 0) (.vl 2)) (.at 2 0) (.li 0)) (.ci (.li 7) .n0))) (.li 3)))
def xe1_6 : E := (.ic .eql xe1_3 (.li 1))
def xe1_7 : E := (.i2f (.ib .sub .i64 (.ai 9 0 (.ci (.ti (.ic .lss (.li 1) (.vl 2)) (.at 2 1) (.li 1)) (.ci (.li 7) .n0))) (.li 3)))
def xe1_8 : E := (.ib .sub .i64 (.ai 9 0 (.ci (.vi 0) (.ci (.li 17) .n0))) (.li 8))
def xe1_9 : E := (.fb .quo (.i2f (.ib .sub .i64 xe1_8 (.ai 9 0 (.ci xe1_8 (.ci (.li 4) .n0))))) (.lf 4616189618054758400))
def xe1_10 : E := (.tf xe1_4 xe1_5 (.tf xe1_6 xe1_7 xe1_9))
def xe1_11 : E := (.ti xe1_2 (.li 0) (.ai 9 0 (.ci (.ib .quo .i64 (.at 1 0) (.li 40)) (.ci (.li 3) .n0))))
def xe1_12 : E := (.ic .eql xe1_11 (.li 0))
def xe1_13 : E := (.ic .eql xe1_11 (.li 1))
def xe1_14 : E := (.tf xe1_12 xe1_5 (.tf xe1_13 xe1_7 xe1_9))
def xe1_15 : E := (.ic .eql xe1_0 (.li 2))
def xe1_16 : E := (.ib .sub .i64 (.ai 9 0 (.ci (.ib .quo .i64 (.at 1 0) (.li 11)) (.ci (.li 33) .n0))) (.li 16))
def xe1_17 : E := (.tf xe1_2 (.fb .quo (.i2f (.ib .sub .i64 xe1_16 (.ai 9 0 (.ci xe1_16 (.ci (.li 8) .n0))))) (.lf 4620693217682128896)) (.lf 0))
def xe1_18 : E := (.tf xe1_2 (.fb .quo (.i2f xe1_16) (.lf 4620693217682128896)) (.lf 0))
def xe1_19 : E := (.tf xe1_2 xe1_17 xe1_18)
def xe1_20 : E := (.ib .quo .i64 (.vi 0) (.li 3))
def xe1_21 : E := (.ai 9 0 (.ci (.ib .add .i64 xe1_20 (.li 0)) (.ci (.li 3) .n0)))
def xe1_22 : E := (.ib .sub .i64 (.ib .sub .i64 (.li 3) xe1_21) (.li 1))
def xe1_23 : E := (.ic .eql xe1_22 (.li 0))
def xe1_24 : E := (.ic .eql xe1_22 (.li 1))
def xe1_25 : E := (.ai 9 0 (.ci (.ib .add .i64 xe1_20 (.li 1)) (.ci (.li 3) .n0)))
def xe1_26 : E := (.ib .sub .i64 (.ib .sub .i64 (.li 3) xe1_25) (.li 1))
def xe1_27 : E := (.ic .eql xe1_26 (.li 0))
def xe1_28 : E := (.ic .eql xe1_26 (.li 1))
def xe1_29 : E := (.ti (.ic .lss (.li 0) (.vl 3)) (.at 3 0) (.li 0))
def xe1_30 : E := (.fb .sub xe1_5 (.i2f (.ai 9 0 (.ci xe1_29 (.ci (.li 4) .n0)))))
def xe1_31 : E := (.ti (.ic .lss (.li 1) (.vl 3)) (.at 3 1) (.li 0))
def xe1_32 : E := (.fb .sub xe1_7 (.i2f (.ai 9 0 (.ci xe1_31 (.ci (.li 4) .n0)))))
def xe1_33 : E := (.fb .add xe1_5 (.i2f (.ai 9 0 (.ci (.ib .quo .i64 xe1_29 (.li 4)) (.ci (.li 4) .n0)))))
def xe1_34 : E := (.fb .add xe1_7 (.i2f (.ai 9 0 (.ci (.ib .quo .i64 xe1_31 (.li 4)) (.ci (.li 4) .n0)))))
def xe1_35 : E := (.ic .eql (.ai 9 0 (.ci (.at 1 1) (.ci (.li 11) .n0))) (.li 0))
def xe1_36 : E := (.ti xe1_35 (.li 0) (.ai 9 0 (.ci (.ib .quo .i64 (.at 1 1) (.li 4)) (.ci (.li 4) .n0))))
def xe1_37 : E := (.ic .eql xe1_36 (.li 0))
def xe1_38 : E := (.ic .eql xe1_36 (.li 1))
def xe1_39 : E := (.ic .eql xe1_36 (.li 2))
def xe1_40 : E := (.ti xe1_35 (.li 0) (.ai 9 0 (.ci (.ib .quo .i64 (.at 1 1) (.li 40)) (.ci (.li 4) .n0))))
def xe1_41 : E := (.ic .eql xe1_40 (.li 0))
def xe1_42 : E := (.ic .eql xe1_40 (.li 1))
def xe1_43 : E := (.ic .eql xe1_40 (.li 2))
def xe1_44 : E := (.ib .add .i64 (.li 2) (.ai 9 0 (.ci (.at 1 1) (.ci (.li 3) .n0))))
def xe1_45 : E := (.ic .eql xe1_44 (.li 3))
def xe1_46 : E := (.ic .eql xe1_44 (.li 2))
def xe1_47 : E := (.ib .sub .i64 (.ai 9 0 (.ci (.ib .quo .i64 (.at 1 1) (.li 11)) (.ci (.li 33) .n0))) (.li 16))
def xe1_48 : E := (.tf xe1_35 (.fb .quo (.i2f (.ib .sub .i64 xe1_47 (.ai 9 0 (.ci xe1_47 (.ci (.li 8) .n0))))) (.lf 4620693217682128896)) (.lf 0))
def xe1_49 : E := (.tf xe1_35 (.fb .quo (.i2f xe1_47) (.lf 4620693217682128896)) (.lf 0))
def xe1_50 : E := (.tf xe1_35 xe1_48 xe1_49)
def xe1_51 : E := (.ib .sub .i64 (.ib .sub .i64 (.li 4) xe1_21) (.li 2))
def xe1_52 : E := (.ic .eql xe1_51 (.li 0))
def xe1_53 : E := (.ic .eql xe1_51 (.li 1))
def xe1_54 : E := (.ib .sub .i64 (.ib .sub .i64 (.li 4) xe1_25) (.li 2))
def xe1_55 : E := (.ic .eql xe1_54 (.li 0))
def xe1_56 : E := (.ic .eql xe1_54 (.li 1))
def xe1_57 : E := (.ic .eql (.ai 9 0 (.ci (.at 1 2) (.ci (.li 11) .n0))) (.li 0))
def xe1_58 : E := (.ti xe1_57 (.li 0) (.ai 9 0 (.ci (.ib .quo .i64 (.at 1 2) (.li 4)) (.ci (.li 5) .n0))))
def xe1_59 : E := (.ic .eql xe1_58 (.li 0))
def xe1_60 : E := (.ic .eql xe1_58 (.li 1))
def xe1_61 : E := (.ic .eql xe1_58 (.li 2))
def xe1_62 : E := (.ic .eql xe1_58 (.li 3))
def xe1_63 : E := (.ti xe1_57 (.li 0) (.ai 9 0 (.ci (.ib .quo .i64 (.at 1 2) (.li 40)) (.ci (.li 5) .n0))))
def xe1_64 : E := (.ic .eql xe1_63 (.li 0))
def xe1_65 : E := (.ic .eql xe1_63 (.li 1))
def xe1_66 : E := (.ic .eql xe1_63 (.li 2))
def xe1_67 : E := (.ic .eql xe1_63 (.li 3))
def xe1_68 : E := (.ib .add .i64 (.li 2) (.ai 9 0 (.ci (.at 1 2) (.ci (.li 3) .n0))))
def xe1_69 : E := (.ic .eql xe1_68 (.li 3))
def xe1_70 : E := (.ic .eql xe1_68 (.li 2))
def xe1_71 : E := (.ib .sub .i64 (.ai 9 0 (.ci (.ib .quo .i64 (.at 1 2) (.li 11)) (.ci (.li 33) .n0))) (.li 16))
def xe1_72 : E := (.tf xe1_57 (.fb .quo (.i2f (.ib .sub .i64 xe1_71 (.ai 9 0 (.ci xe1_71 (.ci (.li 8) .n0))))) (.lf 4620693217682128896)) (.lf 0))
def xe1_73 : E := (.tf xe1_57 (.fb .quo (.i2f xe1_71) (.lf 4620693217682128896)) (.lf 0))
def xe1_74 : E := (.tf xe1_57 xe1_72 xe1_73)
def xe1_75 : E := (.ib .sub .i64 (.ib .sub .i64 (.li 5) xe1_21) (.li 3))
def xe1_76 : E := (.ic .eql xe1_75 (.li 0))
def xe1_77 : E := (.ic .eql xe1_75 (.li 1))
def xe1_78 : E := (.ib .sub .i64 (.ib .sub .i64 (.li 5) xe1_25) (.li 3))
def xe1_79 : E := (.ic .eql xe1_78 (.li 0))
def xe1_80 : E := (.ic .eql xe1_78 (.li 1))
def xe1_81 : E := (.ic .eql (.ai 9 0 (.ci (.at 1 3) (.ci (.li 11) .n0))) (.li 0))
def xe1_82 : E := (.ib .sub .i64 (.ai 9 0 (.ci (.ib .quo .i64 (.at 1 3) (.li 11)) (.ci (.li 33) .n0))) (.li 16))
def xe1_83 : E := (.tf xe1_81 (.fb .quo (.i2f (.ib .sub .i64 xe1_82 (.ai 9 0 (.ci xe1_82 (.ci (.li 8) .n0))))) (.lf 4620693217682128896)) (.lf 0))
def xe1_84 : E := (.ti xe1_81 (.li 0) (.ai 9 0 (.ci (.ib .quo .i64 (.at 1 3) (.li 4)) (.ci (.li 6) .n0))))
def xe1_85 : E := (.ic .eql xe1_84 (.li 0))
def xe1_86 : E := (.ic .eql xe1_84 (.li 1))
def xe1_87 : E := (.ic .eql xe1_84 (.li 2))
def xe1_88 : E := (.ic .eql xe1_84 (.li 3))
def xe1_89 : E := (.ic .eql xe1_84 (.li 4))
def xe1_90 : E := (.ti xe1_81 (.li 0) (.ai 9 0 (.ci (.ib .quo .i64 (.at 1 3) (.li 40)) (.ci (.li 6) .n0))))
def xe1_91 : E := (.ic .eql xe1_90 (.li 0))
def xe1_92 : E := (.ic .eql xe1_90 (.li 1))
def xe1_93 : E := (.ic .eql xe1_90 (.li 2))
def xe1_94 : E := (.ic .eql xe1_90 (.li 3))
def xe1_95 : E := (.ic .eql xe1_90 (.li 4))
def xe1_96 : E := (.ib .add .i64 (.li 2) (.ai 9 0 (.ci (.at 1 3) (.ci (.li 3) .n0))))
def xe1_97 : E := (.ic .eql xe1_96 (.li 3))
def xe1_98 : E := (.ic .eql xe1_96 (.li 2))
def xe1_99 : E := (.tf xe1_81 (.fb .quo (.i2f xe1_82) (.lf 4620693217682128896)) (.lf 0))
def xe1_100 : E := (.tf xe1_81 xe1_83 xe1_99)
def xe1_101 : E := (.ib .sub .i64 (.ib .sub .i64 (.li 6) xe1_21) (.li 4))
def xe1_102 : E := (.ic .eql xe1_101 (.li 0))
def xe1_103 : E := (.ic .eql xe1_101 (.li 1))
def xe1_104 : E := (.ib .sub .i64 (.ib .sub .i64 (.li 6) xe1_25) (.li 4))
def xe1_105 : E := (.ic .eql xe1_104 (.li 0))
def xe1_106 : E := (.ic .eql xe1_104 (.li 1))
def xe1_107 : E := (.ic .eql (.ai 9 0 (.ci (.at 1 4) (.ci (.li 11) .n0))) (.li 0))
def xe1_108 : E := (.ib .sub .i64 (.ai 9 0 (.ci (.ib .quo .i64 (.at 1 4) (.li 11)) (.ci (.li 33) .n0))) (.li 16))
def xe1_109 : E := (.tf xe1_107 (.fb .quo (.i2f (.ib .sub .i64 xe1_108 (.ai 9 0 (.ci xe1_108 (.ci (.li 8) .n0))))) (.lf 4620693217682128896)) (.lf 0))
def xe1_110 : E := (.ti xe1_107 (.li 0) (.ai 9 0 (.ci (.ib .quo .i64 (.at 1 4) (.li 4)) (.ci (.li 7) .n0))))
def xe1_111 : E := (.ic .eql xe1_110 (.li 0))
def xe1_112 : E := (.ic .eql xe1_110 (.li 1))
def xe1_113 : E := (.ic .eql xe1_110 (.li 2))
def xe1_114 : E := (.ic .eql xe1_110 (.li 3))
def xe1_115 : E := (.ic .eql xe1_110 (.li 4))
def xe1_116 : E := (.ic .eql xe1_110 (.li 5))
def xe1_117 : E := (.ti xe1_107 (.li 0) (.ai 9 0 (.ci (.ib .quo .i64 (.at 1 4) (.li 40)) (.ci (.li 7) .n0))))
def xe1_118 : E := (.ic .eql xe1_117 (.li 0))
def xe1_119 : E := (.ic .eql xe1_117 (.li 1))
def xe1_120 : E := (.ic .eql xe1_117 (.li 2))
def xe1_121 : E := (.ic .eql xe1_117 (.li 3))
def xe1_122 : E := (.ic .eql xe1_117 (.li 4))
def xe1_123 : E := (.ic .eql xe1_117 (.li 5))
def xe1_124 : E := (.ib .add .i64 (.li 2) (.ai 9 0 (.ci (.at 1 4) (.ci (.li 3) .n0))))
def xe1_125 : E := (.ic .eql xe1_124 (.li 3))
def xe1_126 : E := (.ic .eql xe1_124 (.li 2))
def xe1_127 : E := (.tf xe1_107 (.fb .quo (.i2f xe1_108) (.lf 4620693217682128896)) (.lf 0))
def xe1_128 : E := (.tf xe1_107 xe1_109 xe1_127)
def xe1_129 : E := (.ib .sub .i64 (.ib .sub .i64 (.li 7) xe1_21) (.li 5))
def xe1_130 : E := (.ic .eql xe1_129 (.li 0))
def xe1_131 : E := (.ic .eql xe1_129 (.li 1))
def xe1_132 : E := (.ib .sub .i64 (.ib .sub .i64 (.li 7) xe1_25) (.li 5))
def xe1_133 : E := (.ic .eql xe1_132 (.li 0))
def xe1_134 : E := (.ic .eql xe1_132 (.li 1))
def xe1_135 : E := (.ic .eql (.ai 9 0 (.ci (.at 1 5) (.ci (.li 11) .n0))) (.li 0))
def xe1_136 : E := (.ib .sub .i64 (.ai 9 0 (.ci (.ib .quo .i64 (.at 1 5) (.li 11)) (.ci (.li 33) .n0))) (.li 16))
def xe1_137 : E := (.tf xe1_135 (.fb .quo (.i2f xe1_136) (.lf 4620693217682128896)) (.lf 0))
def xe1_138 : E := (.tf xe1_135 (.fb .quo (.i2f (.ib .sub .i64 xe1_136 (.ai 9 0 (.ci xe1_136 (.ci (.li 8) .n0))))) (.lf 4620693217682128896)) (.lf 0))
def xe1_139 : E := (.ti xe1_135 (.li 0) (.ai 9 0 (.ci (.ib .quo .i64 (.at 1 5) (.li 4)) (.ci (.li 8) .n0))))
def xe1_140 : E := (.ic .eql xe1_139 (.li 0))
def xe1_141 : E := (.ic .eql xe1_139 (.li 1))
def xe1_142 : E := (.ic .eql xe1_139 (.li 2))
def xe1_143 : E := (.ic .eql xe1_139 (.li 3))
def xe1_144 : E := (.ic .eql xe1_139 (.li 4))
def xe1_145 : E := (.ic .eql xe1_139 (.li 5))
def xe1_146 : E := (.ic .eql xe1_139 (.li 6))
def xe1_147 : E := (.ti xe1_135 (.li 0) (.ai 9 0 (.ci (.ib .quo .i64 (.at 1 5) (.li 40)) (.ci (.li 8) .n0))))
def xe1_148 : E := (.ic .eql xe1_147 (.li 0))
def xe1_149 : E := (.ic .eql xe1_147 (.li 1))
def xe1_150 : E := (.ic .eql xe1_147 (.li 2))
def xe1_151 : E := (.ic .eql xe1_147 (.li 3))
def xe1_152 : E := (.ic .eql xe1_147 (.li 4))
def xe1_153 : E := (.ic .eql xe1_147 (.li 5))
def xe1_154 : E := (.ic .eql xe1_147 (.li 6))
def xe1_155 : E := (.ib .add .i64 (.li 2) (.ai 9 0 (.ci (.at 1 5) (.ci (.li 3) .n0))))
def xe1_156 : E := (.ic .eql xe1_155 (.li 3))
def xe1_157 : E := (.ic .eql xe1_155 (.li 2))
def xe1_158 : E := (.tf xe1_135 xe1_138 xe1_137)
def xe1_159 : E := (.ib .sub .i64 (.ib .sub .i64 (.li 8) xe1_21) (.li 6))
def xe1_160 : E := (.ic .eql xe1_159 (.li 0))
def xe1_161 : E := (.ic .eql xe1_159 (.li 1))
def xe1_162 : E := (.ib .sub .i64 (.ib .sub .i64 (.li 8) xe1_25) (.li 6))
def xe1_163 : E := (.ic .eql xe1_162 (.li 0))
def xe1_164 : E := (.ic .eql xe1_162 (.li 1))
def xe1_165 : E := (.ic .eql (.ai 9 0 (.ci (.at 1 6) (.ci (.li 11) .n0))) (.li 0))
def xe1_166 : E := (.ib .sub .i64 (.ai 9 0 (.ci (.ib .quo .i64 (.at 1 6) (.li 11)) (.ci (.li 33) .n0))) (.li 16))
def xe1_167 : E := (.tf xe1_165 (.fb .quo (.i2f xe1_166) (.lf 4620693217682128896)) (.lf 0))
def xe1_168 : E := (.tf xe1_165 (.fb .quo (.i2f (.ib .sub .i64 xe1_166 (.ai 9 0 (.ci xe1_166 (.ci (.li 8) .n0))))) (.lf 4620693217682128896)) (.lf 0))
def xe1_169 : E := (.ti xe1_165 (.li 0) (.ai 9 0 (.ci (.ib .quo .i64 (.at 1 6) (.li 4)) (.ci (.li 9) .n0))))
def xe1_170 : E := (.ic .eql xe1_169 (.li 0))
def xe1_171 : E := (.ic .eql xe1_169 (.li 1))
def xe1_172 : E := (.ic .eql xe1_169 (.li 2))
def xe1_173 : E := (.ic .eql xe1_169 (.li 3))
def xe1_174 : E := (.ic .eql xe1_169 (.li 4))
def xe1_175 : E := (.ic .eql xe1_169 (.li 5))
def xe1_176 : E := (.ic .eql xe1_169 (.li 6))
def xe1_177 : E := (.ic .eql xe1_169 (.li 7))
def xe1_178 : E := (.ti xe1_165 (.li 0) (.ai 9 0 (.ci (.ib .quo .i64 (.at 1 6) (.li 40)) (.ci (.li 9) .n0))))
def xe1_179 : E := (.ic .eql xe1_178 (.li 0))
def xe1_180 : E := (.ic .eql xe1_178 (.li 1))
def xe1_181 : E := (.ic .eql xe1_178 (.li 2))
def xe1_182 : E := (.ic .eql xe1_178 (.li 3))
def xe1_183 : E := (.ic .eql xe1_178 (.li 4))
def xe1_184 : E := (.ic .eql xe1_178 (.li 5))
def xe1_185 : E := (.ic .eql xe1_178 (.li 6))
def xe1_186 : E := (.ic .eql xe1_178 (.li 7))
def xe1_187 : E := (.ib .add .i64 (.li 2) (.ai 9 0 (.ci (.at 1 6) (.ci (.li 3) .n0))))
def xe1_188 : E := (.ic .eql xe1_187 (.li 3))
def xe1_189 : E := (.ic .eql xe1_187 (.li 2))
def xe1_190 : E := (.tf xe1_165 xe1_168 xe1_167)
def xe1_191 : E := (.ib .sub .i64 (.ib .sub .i64 (.li 9) xe1_21) (.li 7))
def xe1_192 : E := (.ic .eql xe1_191 (.li 0))
def xe1_193 : E := (.ic .eql xe1_191 (.li 1))
def xe1_194 : E := (.ib .sub .i64 (.ib .sub .i64 (.li 9) xe1_25) (.li 7))
def xe1_195 : E := (.ic .eql xe1_194 (.li 0))
def xe1_196 : E := (.ic .eql xe1_194 (.li 1))
def xe1_197 : E := (.ic .eql (.ai 9 0 (.ci (.at 1 7) (.ci (.li 11) .n0))) (.li 0))
def xe1_198 : E := (.ib .sub .i64 (.ai 9 0 (.ci (.ib .quo .i64 (.at 1 7) (.li 11)) (.ci (.li 33) .n0))) (.li 16))
def xe1_199 : E := (.tf xe1_197 (.fb .quo (.i2f xe1_198) (.lf 4620693217682128896)) (.lf 0))
def xe1_200 : E := (.tf xe1_197 (.fb .quo (.i2f (.ib .sub .i64 xe1_198 (.ai 9 0 (.ci xe1_198 (.ci (.li 8) .n0))))) (.lf 4620693217682128896)) (.lf 0))
def xe1_201 : E := (.ti xe1_197 (.li 0) (.ai 9 0 (.ci (.ib .quo .i64 (.at 1 7) (.li 4)) (.ci (.li 10) .n0))))
def xe1_202 : E := (.ic .eql xe1_201 (.li 0))
def xe1_203 : E := (.ic .eql xe1_201 (.li 1))
def xe1_204 : E := (.ic .eql xe1_201 (.li 2))
def xe1_205 : E := (.ic .eql xe1_201 (.li 3))
def xe1_206 : E := (.ic .eql xe1_201 (.li 4))
def xe1_207 : E := (.ic .eql xe1_201 (.li 5))
def xe1_208 : E := (.ic .eql xe1_201 (.li 6))
def xe1_209 : E := (.ic .eql xe1_201 (.li 7))
def xe1_210 : E := (.ic .eql xe1_201 (.li 8))
def xe1_211 : E := (.ti xe1_197 (.li 0) (.ai 9 0 (.ci (.ib .quo .i64 (.at 1 7) (.li 40)) (.ci (.li 10) .n0))))
def xe1_212 : E := (.ic .eql xe1_211 (.li 0))
def xe1_213 : E := (.ic .eql xe1_211 (.li 1))
def xe1_214 : E := (.ic .eql xe1_211 (.li 2))
def xe1_215 : E := (.ic .eql xe1_211 (.li 3))
def xe1_216 : E := (.ic .eql xe1_211 (.li 4))
def xe1_217 : E := (.ic .eql xe1_211 (.li 5))
def xe1_218 : E := (.ic .eql xe1_211 (.li 6))
def xe1_219 : E := (.ic .eql xe1_211 (.li 7))
def xe1_220 : E := (.ic .eql xe1_211 (.li 8))
def xe1_221 : E := (.ib .add .i64 (.li 2) (.ai 9 0 (.ci (.at 1 7) (.ci (.li 3) .n0))))
def xe1_222 : E := (.ic .eql xe1_221 (.li 3))
def xe1_223 : E := (.ic .eql xe1_221 (.li 2))
def xe1_224 : E := (.tf xe1_197 xe1_200 xe1_199)
def xe1_225 : E := (.ib .sub .i64 (.ib .sub .i64 (.li 10) xe1_21) (.li 8))
def xe1_226 : E := (.ic .eql xe1_225 (.li 0))
def xe1_227 : E := (.ic .eql xe1_225 (.li 1))
def xe1_228 : E := (.ib .sub .i64 (.ib .sub .i64 (.li 10) xe1_25) (.li 8))
def xe1_229 : E := (.ic .eql xe1_228 (.li 0))
def xe1_230 : E := (.ic .eql xe1_228 (.li 1))
def xN1 : Nms := [(3527479888, 100, (.tf xe1_1 (.fb .sub xe1_10 xe1_14) (.fb .mul xe1_10 xe1_14))),
  (2901137418, 101, (.tf xe1_15 (.fb .add xe1_10 xe1_14) (.vf 100))),
  (442403299, 102, (.tf xe1_2 xe1_19 (.vf 101))),
  (1951164256, 103, (.tf xe1_23 xe1_7 (.tf xe1_24 xe1_9 (.vf 102)))),
  (3954169005, 104, (.tf xe1_27 xe1_7 (.tf xe1_28 xe1_9 (.vf 102)))),
  (2953613256, 105, (.af 20 0 (.cf (.tf xe1_4 xe1_30 (.tf xe1_6 xe1_32 xe1_9)) (.cf (.tf xe1_4 xe1_33 (.tf xe1_6 xe1_34 xe1_9)) (.cf (.tf xe1_12 xe1_30 (.tf xe1_13 xe1_32 xe1_9)) (.cf (.tf xe1_12 xe1_33 (.tf xe1_13 xe1_34 xe1_9)) .n0)))))),
  (2954613259, 106, (.af 20 1 (.cf (.tf xe1_4 xe1_30 (.tf xe1_6 xe1_32 xe1_9)) (.cf (.tf xe1_4 xe1_33 (.tf xe1_6 xe1_34 xe1_9)) (.cf (.tf xe1_12 xe1_30 (.tf xe1_13 xe1_32 xe1_9)) (.cf (.tf xe1_12 xe1_33 (.tf xe1_13 xe1_34 xe1_9)) .n0)))))),
  (2232234462, 107, (.af 21 0 (.cf (.tf xe1_4 xe1_30 (.tf xe1_6 xe1_32 xe1_9)) (.cf (.tf xe1_4 xe1_33 (.tf xe1_6 xe1_34 xe1_9)) (.cf (.tf xe1_12 xe1_30 (.tf xe1_13 xe1_32 xe1_9)) (.cf (.tf xe1_12 xe1_33 (.tf xe1_13 xe1_34 xe1_9)) .n0)))))),
  (2233234465, 108, (.af 21 1 (.cf (.tf xe1_4 xe1_30 (.tf xe1_6 xe1_32 xe1_9)) (.cf (.tf xe1_4 xe1_33 (.tf xe1_6 xe1_34 xe1_9)) (.cf (.tf xe1_12 xe1_30 (.tf xe1_13 xe1_32 xe1_9)) (.cf (.tf xe1_12 xe1_33 (.tf xe1_13 xe1_34 xe1_9)) .n0)))))),
  (1510855668, 109, (.af 22 0 (.cf (.tf xe1_4 xe1_30 (.tf xe1_6 xe1_32 xe1_9)) (.cf (.tf xe1_4 xe1_33 (.tf xe1_6 xe1_34 xe1_9)) (.cf (.tf xe1_12 xe1_30 (.tf xe1_13 xe1_32 xe1_9)) (.cf (.tf xe1_12 xe1_33 (.tf xe1_13 xe1_34 xe1_9)) .n0)))))),
  (1511855671, 110, (.af 22 1 (.cf (.tf xe1_4 xe1_30 (.tf xe1_6 xe1_32 xe1_9)) (.cf (.tf xe1_4 xe1_33 (.tf xe1_6 xe1_34 xe1_9)) (.cf (.tf xe1_12 xe1_30 (.tf xe1_13 xe1_32 xe1_9)) (.cf (.tf xe1_12 xe1_33 (.tf xe1_13 xe1_34 xe1_9)) .n0)))))),
  (4134447248, 111, (.tf xe1_1 (.vf 108) (.vf 110))),
  (4133447244, 112, (.tf xe1_1 (.vf 107) (.vf 109))),
  (1280237540, 113, (.tf xe1_15 (.vf 106) (.vf 111))),
  (1279237538, 114, (.tf xe1_15 (.vf 105) (.vf 112))),
  (442403311, 115, (.tf xe1_2 xe1_19 (.vf 113))),
  (442403312, 116, (.tf xe1_2 xe1_19 (.vf 114))),
  (1585830699, 117, (.tf xe1_23 xe1_32 (.tf xe1_24 xe1_9 (.vf 116)))),
  (3870368276, 118, (.tf xe1_23 xe1_34 (.tf xe1_24 xe1_9 (.vf 115)))),
  (3588835448, 119, (.tf xe1_27 xe1_32 (.tf xe1_28 xe1_9 (.vf 116)))),
  (1578405734, 120, (.tf xe1_27 xe1_34 (.tf xe1_28 xe1_9 (.vf 115)))),
  (2890153726, 121, (.tf xe1_37 xe1_5 (.tf xe1_38 xe1_7 (.tf xe1_39 xe1_9 (.vf 102))))),
  (1521902299, 122, (.tf xe1_41 xe1_5 (.tf xe1_42 xe1_7 (.tf xe1_43 xe1_9 (.vf 102))))),
  (3357843606, 123, (.tf xe1_45 (.fb .sub (.vf 121) (.vf 122)) (.fb .mul (.vf 121) (.vf 122)))),
  (2409994898, 124, (.tf xe1_46 (.fb .add (.vf 121) (.vf 122)) (.vf 123))),
  (1066989571, 125, (.tf xe1_35 xe1_50 (.vf 124))),
  (2353549922, 126, (.tf xe1_52 xe1_9 (.tf xe1_53 (.vf 102) (.vf 125)))),
  (61587380, 127, (.tf xe1_55 xe1_9 (.tf xe1_56 (.vf 102) (.vf 125)))),
  (3755313970, 128, (.tf xe1_37 xe1_30 (.tf xe1_38 xe1_32 (.tf xe1_39 xe1_9 (.vf 116))))),
  (1223051382, 129, (.tf xe1_37 xe1_33 (.tf xe1_38 xe1_34 (.tf xe1_39 xe1_9 (.vf 115))))),
  (2387062543, 130, (.tf xe1_41 xe1_30 (.tf xe1_42 xe1_32 (.tf xe1_43 xe1_9 (.vf 116))))),
  (4149767246, 131, (.tf xe1_41 xe1_33 (.tf xe1_42 xe1_34 (.tf xe1_43 xe1_9 (.vf 115))))),
  (739078950, 132, (.af 20 0 (.cf (.vf 128) (.cf (.vf 129) (.cf (.vf 130) (.cf (.vf 131) .n0)))))),
  (740078953, 133, (.af 20 1 (.cf (.vf 128) (.cf (.vf 129) (.cf (.vf 130) (.cf (.vf 131) .n0)))))),
  (17700156, 134, (.af 21 0 (.cf (.vf 128) (.cf (.vf 129) (.cf (.vf 130) (.cf (.vf 131) .n0)))))),
  (18700159, 135, (.af 21 1 (.cf (.vf 128) (.cf (.vf 129) (.cf (.vf 130) (.cf (.vf 131) .n0)))))),
  (3591288653, 136, (.af 22 0 (.cf (.vf 128) (.cf (.vf 129) (.cf (.vf 130) (.cf (.vf 131) .n0)))))),
  (3592288656, 137, (.af 22 1 (.cf (.vf 128) (.cf (.vf 129) (.cf (.vf 130) (.cf (.vf 131) .n0)))))),
  (516321126, 138, (.tf xe1_45 (.vf 135) (.vf 137))),
  (515321122, 139, (.tf xe1_45 (.vf 134) (.vf 136))),
  (1957078709, 140, (.tf xe1_46 (.vf 133) (.vf 138))),
  (1956078707, 141, (.tf xe1_46 (.vf 132) (.vf 139))),
  (1066989587, 142, (.tf xe1_35 xe1_50 (.vf 140))),
  (1066989588, 143, (.tf xe1_35 xe1_50 (.vf 141))),
  (2367549982, 144, (.tf xe1_52 xe1_9 (.tf xe1_53 (.vf 116) (.vf 143)))),
  (2366549978, 145, (.tf xe1_52 xe1_9 (.tf xe1_53 (.vf 115) (.vf 142)))),
  (75587440, 146, (.tf xe1_55 xe1_9 (.tf xe1_56 (.vf 116) (.vf 143)))),
  (74587436, 147, (.tf xe1_55 xe1_9 (.tf xe1_56 (.vf 115) (.vf 142)))),
  (1839587041, 148, (.tf xe1_59 xe1_5 (.tf xe1_60 xe1_7 (.tf xe1_61 xe1_9 (.tf xe1_62 (.vf 102) (.vf 125)))))),
  (15251805, 149, (.tf xe1_64 xe1_5 (.tf xe1_65 xe1_7 (.tf xe1_66 xe1_9 (.tf xe1_67 (.vf 102) (.vf 125)))))),
  (1764326582, 150, (.tf xe1_69 (.fb .sub (.vf 148) (.vf 149)) (.fb .mul (.vf 148) (.vf 149)))),
  (789477793, 151, (.tf xe1_70 (.fb .add (.vf 148) (.vf 149)) (.vf 150))),
  (1691575847, 152, (.tf xe1_57 xe1_74 (.vf 151))),
  (259442833, 153, (.tf xe1_76 (.vf 102) (.tf xe1_77 (.vf 125) (.vf 152)))),
  (2262447582, 154, (.tf xe1_79 (.vf 102) (.tf xe1_80 (.vf 125) (.vf 152)))),
  (2718747331, 155, (.tf xe1_59 xe1_30 (.tf xe1_60 xe1_32 (.tf xe1_61 xe1_9 (.tf xe1_62 (.vf 116) (.vf 143)))))),
  (185484740, 156, (.tf xe1_59 xe1_33 (.tf xe1_60 xe1_34 (.tf xe1_61 xe1_9 (.tf xe1_62 (.vf 115) (.vf 142)))))),
  (894412095, 157, (.tf xe1_64 xe1_30 (.tf xe1_65 xe1_32 (.tf xe1_66 xe1_9 (.tf xe1_67 (.vf 116) (.vf 143)))))),
  (2656116795, 158, (.tf xe1_64 xe1_33 (.tf xe1_65 xe1_34 (.tf xe1_66 xe1_9 (.tf xe1_67 (.vf 115) (.vf 142)))))),
  (847079274, 159, (.af 20 0 (.cf (.vf 155) (.cf (.vf 156) (.cf (.vf 157) (.cf (.vf 158) .n0)))))),
  (848079277, 160, (.af 20 1 (.cf (.vf 155) (.cf (.vf 156) (.cf (.vf 157) (.cf (.vf 158) .n0)))))),
  (125700480, 161, (.af 21 0 (.cf (.vf 155) (.cf (.vf 156) (.cf (.vf 157) (.cf (.vf 158) .n0)))))),
  (126700483, 162, (.af 21 1 (.cf (.vf 155) (.cf (.vf 156) (.cf (.vf 157) (.cf (.vf 158) .n0)))))),
  (3699288977, 163, (.af 22 0 (.cf (.vf 155) (.cf (.vf 156) (.cf (.vf 157) (.cf (.vf 158) .n0)))))),
  (3700288980, 164, (.af 22 1 (.cf (.vf 155) (.cf (.vf 156) (.cf (.vf 157) (.cf (.vf 158) .n0)))))),
  (1193162295, 165, (.tf xe1_69 (.vf 162) (.vf 164))),
  (1192162291, 166, (.tf xe1_69 (.vf 161) (.vf 163))),
  (2633919878, 167, (.tf xe1_70 (.vf 160) (.vf 165))),
  (2632919876, 168, (.tf xe1_70 (.vf 159) (.vf 166))),
  (1691575863, 169, (.tf xe1_57 xe1_74 (.vf 167))),
  (1691575864, 170, (.tf xe1_57 xe1_74 (.vf 168))),
  (291442947, 171, (.tf xe1_76 (.vf 116) (.tf xe1_77 (.vf 143) (.vf 170)))),
  (289442940, 172, (.tf xe1_76 (.vf 115) (.tf xe1_77 (.vf 142) (.vf 169)))),
  (2294447696, 173, (.tf xe1_79 (.vf 116) (.tf xe1_80 (.vf 143) (.vf 170)))),
  (2292447689, 174, (.tf xe1_79 (.vf 115) (.tf xe1_80 (.vf 142) (.vf 169)))),
  (2747891526, 175, (.tf xe1_81 xe1_83 (.tf xe1_57 xe1_72 (.tf xe1_35 xe1_48 (.tf xe1_2 xe1_17 xe1_9))))),
  (2655133718, 176, (.tf xe1_85 xe1_5 (.tf xe1_86 xe1_7 (.tf xe1_87 xe1_9 (.tf xe1_88 (.vf 102) (.tf xe1_89 (.vf 125) (.vf 152))))))),
  (374714673, 177, (.tf xe1_91 xe1_5 (.tf xe1_92 xe1_7 (.tf xe1_93 xe1_9 (.tf xe1_94 (.vf 102) (.tf xe1_95 (.vf 125) (.vf 152))))))),
  (3746398062, 178, (.tf xe1_97 (.fb .sub (.vf 176) (.vf 177)) (.fb .mul (.vf 176) (.vf 177)))),
  (2743549189, 179, (.tf xe1_98 (.fb .add (.vf 176) (.vf 177)) (.vf 178))),
  (2316162124, 180, (.tf xe1_81 xe1_100 (.vf 179))),
  (714753090, 181, (.tf xe1_102 (.vf 125) (.tf xe1_103 (.vf 152) (.vf 180)))),
  (2717757839, 182, (.tf xe1_105 (.vf 125) (.tf xe1_106 (.vf 152) (.vf 180)))),
  (3552294062, 183, (.tf xe1_85 xe1_30 (.tf xe1_86 xe1_32 (.tf xe1_87 xe1_9 (.tf xe1_88 (.vf 116) (.tf xe1_89 (.vf 143) (.vf 170))))))),
  (1018031468, 184, (.tf xe1_85 xe1_33 (.tf xe1_86 xe1_34 (.tf xe1_87 xe1_9 (.tf xe1_88 (.vf 115) (.tf xe1_89 (.vf 142) (.vf 169))))))),
  (1271875017, 185, (.tf xe1_91 xe1_30 (.tf xe1_92 xe1_32 (.tf xe1_93 xe1_9 (.tf xe1_94 (.vf 116) (.tf xe1_95 (.vf 143) (.vf 170))))))),
  (3032579714, 186, (.tf xe1_91 xe1_33 (.tf xe1_92 xe1_34 (.tf xe1_93 xe1_9 (.tf xe1_94 (.vf 115) (.tf xe1_95 (.vf 142) (.vf 169))))))),
  (959079610, 187, (.af 20 0 (.cf (.vf 183) (.cf (.vf 184) (.cf (.vf 185) (.cf (.vf 186) .n0)))))),
  (960079613, 188, (.af 20 1 (.cf (.vf 183) (.cf (.vf 184) (.cf (.vf 185) (.cf (.vf 186) .n0)))))),
  (237700816, 189, (.af 21 0 (.cf (.vf 183) (.cf (.vf 184) (.cf (.vf 185) (.cf (.vf 186) .n0)))))),
  (238700819, 190, (.af 21 1 (.cf (.vf 183) (.cf (.vf 184) (.cf (.vf 185) (.cf (.vf 186) .n0)))))),
  (3811289313, 191, (.af 22 0 (.cf (.vf 183) (.cf (.vf 184) (.cf (.vf 185) (.cf (.vf 186) .n0)))))),
  (3812289316, 192, (.af 22 1 (.cf (.vf 183) (.cf (.vf 184) (.cf (.vf 185) (.cf (.vf 186) .n0)))))),
  (1871003468, 193, (.tf xe1_97 (.vf 190) (.vf 192))),
  (1870003464, 194, (.tf xe1_97 (.vf 189) (.vf 191))),
  (3311761051, 195, (.tf xe1_98 (.vf 188) (.vf 193))),
  (3310761049, 196, (.tf xe1_98 (.vf 187) (.vf 194))),
  (2316162140, 197, (.tf xe1_81 xe1_100 (.vf 195))),
  (2316162141, 198, (.tf xe1_81 xe1_100 (.vf 196))),
  (750753216, 199, (.tf xe1_102 (.vf 143) (.tf xe1_103 (.vf 170) (.vf 198)))),
  (748753209, 200, (.tf xe1_102 (.vf 142) (.tf xe1_103 (.vf 169) (.vf 197)))),
  (2753757965, 201, (.tf xe1_105 (.vf 143) (.tf xe1_106 (.vf 170) (.vf 198)))),
  (2751757958, 202, (.tf xe1_105 (.vf 142) (.tf xe1_106 (.vf 169) (.vf 197)))),
  (3839114661, 203, (.tf xe1_107 xe1_109 (.vf 175))),
  (1045826475, 204, (.tf xe1_111 xe1_5 (.tf xe1_112 xe1_7 (.tf xe1_113 xe1_9 (.tf xe1_114 (.vf 102) (.tf xe1_115 (.vf 125) (.tf xe1_116 (.vf 152) (.vf 180)))))))),
  (2604290912, 205, (.tf xe1_118 xe1_5 (.tf xe1_119 xe1_7 (.tf xe1_120 xe1_9 (.tf xe1_121 (.vf 102) (.tf xe1_122 (.vf 125) (.tf xe1_123 (.vf 152) (.vf 180)))))))),
  (1433502251, 206, (.tf xe1_125 (.fb .sub (.vf 204) (.vf 205)) (.fb .mul (.vf 204) (.vf 205)))),
  (402653294, 207, (.tf xe1_126 (.fb .add (.vf 204) (.vf 205)) (.vf 206))),
  (2940748401, 208, (.tf xe1_107 xe1_128 (.vf 207))),
  (1175063362, 209, (.tf xe1_130 (.vf 152) (.tf xe1_131 (.vf 180) (.vf 208)))),
  (3178068111, 210, (.tf xe1_133 (.vf 152) (.tf xe1_134 (.vf 180) (.vf 208)))),
  (1960986873, 211, (.tf xe1_111 xe1_30 (.tf xe1_112 xe1_32 (.tf xe1_113 xe1_9 (.tf xe1_114 (.vf 116) (.tf xe1_115 (.vf 143) (.tf xe1_116 (.vf 170) (.vf 198)))))))),
  (3720691567, 212, (.tf xe1_111 xe1_33 (.tf xe1_112 xe1_34 (.tf xe1_113 xe1_9 (.tf xe1_114 (.vf 115) (.tf xe1_115 (.vf 142) (.tf xe1_116 (.vf 169) (.vf 197)))))))),
  (3519451310, 213, (.tf xe1_118 xe1_30 (.tf xe1_119 xe1_32 (.tf xe1_120 xe1_9 (.tf xe1_121 (.vf 116) (.tf xe1_122 (.vf 143) (.tf xe1_123 (.vf 170) (.vf 198)))))))),
  (984188713, 214, (.tf xe1_118 xe1_33 (.tf xe1_119 xe1_34 (.tf xe1_120 xe1_9 (.tf xe1_121 (.vf 115) (.tf xe1_122 (.vf 142) (.tf xe1_123 (.vf 169) (.vf 197)))))))),
  (1071079946, 215, (.af 20 0 (.cf (.vf 211) (.cf (.vf 212) (.cf (.vf 213) (.cf (.vf 214) .n0)))))),
  (1072079949, 216, (.af 20 1 (.cf (.vf 211) (.cf (.vf 212) (.cf (.vf 213) (.cf (.vf 214) .n0)))))),
  (349701152, 217, (.af 21 0 (.cf (.vf 211) (.cf (.vf 212) (.cf (.vf 213) (.cf (.vf 214) .n0)))))),
  (350701155, 218, (.af 21 1 (.cf (.vf 211) (.cf (.vf 212) (.cf (.vf 213) (.cf (.vf 214) .n0)))))),
  (3923289649, 219, (.af 22 0 (.cf (.vf 211) (.cf (.vf 212) (.cf (.vf 213) (.cf (.vf 214) .n0)))))),
  (3924289652, 220, (.af 22 1 (.cf (.vf 211) (.cf (.vf 212) (.cf (.vf 213) (.cf (.vf 214) .n0)))))),
  (2548844641, 221, (.tf xe1_125 (.vf 218) (.vf 220))),
  (2547844637, 222, (.tf xe1_125 (.vf 217) (.vf 219))),
  (3989602224, 223, (.tf xe1_126 (.vf 216) (.vf 221))),
  (3988602222, 224, (.tf xe1_126 (.vf 215) (.vf 222))),
  (2940748417, 225, (.tf xe1_107 xe1_128 (.vf 223))),
  (2940748418, 226, (.tf xe1_107 xe1_128 (.vf 224))),
  (1211063488, 227, (.tf xe1_130 (.vf 170) (.tf xe1_131 (.vf 198) (.vf 226)))),
  (1209063481, 228, (.tf xe1_130 (.vf 169) (.tf xe1_131 (.vf 197) (.vf 225)))),
  (3214068237, 229, (.tf xe1_133 (.vf 170) (.tf xe1_134 (.vf 198) (.vf 226)))),
  (3212068230, 230, (.tf xe1_133 (.vf 169) (.tf xe1_134 (.vf 197) (.vf 225)))),
  (3374117668, 231, (.tf xe1_135 xe1_137 (.tf xe1_107 xe1_127 (.tf xe1_81 xe1_99 (.tf xe1_57 xe1_73 (.tf xe1_35 xe1_49 (.tf xe1_2 xe1_18 (.fb .quo (.i2f xe1_8) (.lf 4616189618054758400))))))))),
  (3600969373, 232, (.tf xe1_135 xe1_138 (.vf 203))),
  (1307632605, 233, (.tf xe1_140 xe1_5 (.tf xe1_141 xe1_7 (.tf xe1_142 xe1_9 (.tf xe1_143 (.vf 102) (.tf xe1_144 (.vf 125) (.tf xe1_145 (.vf 152) (.tf xe1_146 (.vf 180) (.vf 208))))))))),
  (2410013233, 234, (.tf xe1_148 xe1_5 (.tf xe1_149 xe1_7 (.tf xe1_150 xe1_9 (.tf xe1_151 (.vf 102) (.tf xe1_152 (.vf 125) (.tf xe1_153 (.vf 152) (.tf xe1_154 (.vf 180) (.vf 208))))))))),
  (2696194944, 235, (.tf xe1_156 (.fb .sub (.vf 233) (.vf 234)) (.fb .mul (.vf 233) (.vf 234)))),
  (1636345900, 236, (.tf xe1_157 (.fb .add (.vf 233) (.vf 234)) (.vf 235))),
  (3565334679, 237, (.tf xe1_135 xe1_158 (.vf 236))),
  (1636373638, 238, (.tf xe1_160 (.vf 180) (.tf xe1_161 (.vf 208) (.vf 237)))),
  (3639378387, 239, (.tf xe1_163 (.vf 180) (.tf xe1_164 (.vf 208) (.vf 237)))),
  (2240793057, 240, (.tf xe1_140 xe1_30 (.tf xe1_141 xe1_32 (.tf xe1_142 xe1_9 (.tf xe1_143 (.vf 116) (.tf xe1_144 (.vf 143) (.tf xe1_145 (.vf 170) (.tf xe1_146 (.vf 198) (.vf 226))))))))),
  (3999497748, 241, (.tf xe1_140 xe1_33 (.tf xe1_141 xe1_34 (.tf xe1_142 xe1_9 (.tf xe1_143 (.vf 115) (.tf xe1_144 (.vf 142) (.tf xe1_145 (.vf 169) (.tf xe1_146 (.vf 197) (.vf 225))))))))),
  (3343173685, 242, (.tf xe1_148 xe1_30 (.tf xe1_149 xe1_32 (.tf xe1_150 xe1_9 (.tf xe1_151 (.vf 116) (.tf xe1_152 (.vf 143) (.tf xe1_153 (.vf 170) (.tf xe1_154 (.vf 198) (.vf 226))))))))),
  (806911085, 243, (.tf xe1_148 xe1_33 (.tf xe1_149 xe1_34 (.tf xe1_150 xe1_9 (.tf xe1_151 (.vf 115) (.tf xe1_152 (.vf 142) (.tf xe1_153 (.vf 169) (.tf xe1_154 (.vf 197) (.vf 225))))))))),
  (1187080294, 244, (.af 20 0 (.cf (.vf 240) (.cf (.vf 241) (.cf (.vf 242) (.cf (.vf 243) .n0)))))),
  (1188080297, 245, (.af 20 1 (.cf (.vf 240) (.cf (.vf 241) (.cf (.vf 242) (.cf (.vf 243) .n0)))))),
  (465701500, 246, (.af 21 0 (.cf (.vf 240) (.cf (.vf 241) (.cf (.vf 242) (.cf (.vf 243) .n0)))))),
  (466701503, 247, (.af 21 1 (.cf (.vf 240) (.cf (.vf 241) (.cf (.vf 242) (.cf (.vf 243) .n0)))))),
  (4039289997, 248, (.af 22 0 (.cf (.vf 240) (.cf (.vf 241) (.cf (.vf 242) (.cf (.vf 243) .n0)))))),
  (4040290000, 249, (.af 22 1 (.cf (.vf 240) (.cf (.vf 241) (.cf (.vf 242) (.cf (.vf 243) .n0)))))),
  (3227685818, 250, (.tf xe1_156 (.vf 247) (.vf 249))),
  (3226685814, 251, (.tf xe1_156 (.vf 246) (.vf 248))),
  (373476110, 252, (.tf xe1_157 (.vf 245) (.vf 250))),
  (372476108, 253, (.tf xe1_157 (.vf 244) (.vf 251))),
  (3565334695, 254, (.tf xe1_135 xe1_158 (.vf 252))),
  (3565334696, 255, (.tf xe1_135 xe1_158 (.vf 253))),
  (1672373764, 256, (.tf xe1_160 (.vf 198) (.tf xe1_161 (.vf 226) (.vf 255)))),
  (1670373757, 257, (.tf xe1_160 (.vf 197) (.tf xe1_161 (.vf 225) (.vf 254)))),
  (3675378513, 258, (.tf xe1_163 (.vf 198) (.tf xe1_164 (.vf 226) (.vf 255)))),
  (3673378506, 259, (.tf xe1_163 (.vf 197) (.tf xe1_164 (.vf 225) (.vf 254)))),
  (3639493334, 260, (.tf xe1_165 xe1_167 (.vf 231))),
  (3362824086, 261, (.tf xe1_165 xe1_168 (.vf 232))),
  (3440552109, 262, (.tf xe1_170 xe1_5 (.tf xe1_171 xe1_7 (.tf xe1_172 xe1_9 (.tf xe1_173 (.vf 102) (.tf xe1_174 (.vf 125) (.tf xe1_175 (.vf 152) (.tf xe1_176 (.vf 180) (.tf xe1_177 (.vf 208) (.vf 237)))))))))),
  (4086848928, 263, (.tf xe1_179 xe1_5 (.tf xe1_180 xe1_7 (.tf xe1_181 xe1_9 (.tf xe1_182 (.vf 102) (.tf xe1_183 (.vf 125) (.tf xe1_184 (.vf 152) (.tf xe1_185 (.vf 180) (.tf xe1_186 (.vf 208) (.vf 237)))))))))),
  (3958887637, 264, (.tf xe1_188 (.fb .sub (.vf 262) (.vf 263)) (.fb .mul (.vf 262) (.vf 263)))),
  (2870038506, 265, (.tf xe1_189 (.fb .add (.vf 262) (.vf 263)) (.vf 264))),
  (4189920957, 266, (.tf xe1_165 xe1_190 (.vf 265))),
  (2098683917, 267, (.tf xe1_192 (.vf 208) (.tf xe1_193 (.vf 237) (.vf 266)))),
  (4101688666, 268, (.tf xe1_195 (.vf 208) (.tf xe1_196 (.vf 237) (.vf 266)))),
  (96745324, 269, (.tf xe1_170 xe1_30 (.tf xe1_171 xe1_32 (.tf xe1_172 xe1_9 (.tf xe1_173 (.vf 116) (.tf xe1_174 (.vf 143) (.tf xe1_175 (.vf 170) (.tf xe1_176 (.vf 198) (.tf xe1_177 (.vf 226) (.vf 255)))))))))),
  (1854450012, 270, (.tf xe1_170 xe1_33 (.tf xe1_171 xe1_34 (.tf xe1_172 xe1_9 (.tf xe1_173 (.vf 115) (.tf xe1_174 (.vf 142) (.tf xe1_175 (.vf 169) (.tf xe1_176 (.vf 197) (.tf xe1_177 (.vf 225) (.vf 254)))))))))),
  (743042143, 271, (.tf xe1_179 xe1_30 (.tf xe1_180 xe1_32 (.tf xe1_181 xe1_9 (.tf xe1_182 (.vf 116) (.tf xe1_183 (.vf 143) (.tf xe1_184 (.vf 170) (.tf xe1_185 (.vf 198) (.tf xe1_186 (.vf 226) (.vf 255)))))))))),
  (2500746831, 272, (.tf xe1_179 xe1_33 (.tf xe1_180 xe1_34 (.tf xe1_181 xe1_9 (.tf xe1_182 (.vf 115) (.tf xe1_183 (.vf 142) (.tf xe1_184 (.vf 169) (.tf xe1_185 (.vf 197) (.tf xe1_186 (.vf 225) (.vf 254)))))))))),
  (1303080642, 273, (.af 20 0 (.cf (.vf 269) (.cf (.vf 270) (.cf (.vf 271) (.cf (.vf 272) .n0)))))),
  (1304080645, 274, (.af 20 1 (.cf (.vf 269) (.cf (.vf 270) (.cf (.vf 271) (.cf (.vf 272) .n0)))))),
  (581701848, 275, (.af 21 0 (.cf (.vf 269) (.cf (.vf 270) (.cf (.vf 271) (.cf (.vf 272) .n0)))))),
  (582701851, 276, (.af 21 1 (.cf (.vf 269) (.cf (.vf 270) (.cf (.vf 271) (.cf (.vf 272) .n0)))))),
  (4155290345, 277, (.af 22 0 (.cf (.vf 269) (.cf (.vf 270) (.cf (.vf 271) (.cf (.vf 272) .n0)))))),
  (4156290348, 278, (.af 22 1 (.cf (.vf 269) (.cf (.vf 270) (.cf (.vf 271) (.cf (.vf 272) .n0)))))),
  (3906526995, 279, (.tf xe1_188 (.vf 276) (.vf 278))),
  (3905526991, 280, (.tf xe1_188 (.vf 275) (.vf 277))),
  (1052317287, 281, (.tf xe1_189 (.vf 274) (.vf 279))),
  (1051317285, 282, (.tf xe1_189 (.vf 273) (.vf 280))),
  (4189920973, 283, (.tf xe1_165 xe1_190 (.vf 281))),
  (4189920974, 284, (.tf xe1_165 xe1_190 (.vf 282))),
  (2134684043, 285, (.tf xe1_192 (.vf 226) (.tf xe1_193 (.vf 255) (.vf 284)))),
  (2132684036, 286, (.tf xe1_192 (.vf 225) (.tf xe1_193 (.vf 254) (.vf 283)))),
  (4137688792, 287, (.tf xe1_195 (.vf 226) (.tf xe1_196 (.vf 255) (.vf 284)))),
  (4135688785, 288, (.tf xe1_195 (.vf 225) (.tf xe1_196 (.vf 254) (.vf 283)))),
  (2948164192, 289, (.tf xe1_197 xe1_199 (.vf 260))),
  (3124678799, 290, (.tf xe1_197 xe1_200 (.vf 261))),
  (3150617698, 291, (.tf xe1_202 xe1_5 (.tf xe1_203 xe1_7 (.tf xe1_204 xe1_9 (.tf xe1_205 (.vf 102) (.tf xe1_206 (.vf 125) (.tf xe1_207 (.vf 152) (.tf xe1_208 (.vf 180) (.tf xe1_209 (.vf 208) (.tf xe1_210 (.vf 237) (.vf 266))))))))))),
  (3340830708, 292, (.tf xe1_212 xe1_5 (.tf xe1_213 xe1_7 (.tf xe1_214 xe1_9 (.tf xe1_215 (.vf 102) (.tf xe1_216 (.vf 125) (.tf xe1_217 (.vf 152) (.tf xe1_218 (.vf 180) (.tf xe1_219 (.vf 208) (.tf xe1_220 (.vf 237) (.vf 266))))))))))),
  (926613039, 293, (.tf xe1_222 (.fb .sub (.vf 291) (.vf 292)) (.fb .mul (.vf 291) (.vf 292)))),
  (4103731112, 294, (.tf xe1_223 (.fb .add (.vf 291) (.vf 292)) (.vf 293))),
  (519539944, 295, (.tf xe1_197 xe1_224 (.vf 294))),
  (2561994199, 296, (.tf xe1_226 (.vf 237) (.tf xe1_227 (.vf 266) (.vf 295)))),
  (270031657, 297, (.tf xe1_229 (.vf 237) (.tf xe1_230 (.vf 266) (.vf 295)))),
  (4119778258, 298, (.tf xe1_202 xe1_30 (.tf xe1_203 xe1_32 (.tf xe1_204 xe1_9 (.tf xe1_205 (.vf 116) (.tf xe1_206 (.vf 143) (.tf xe1_207 (.vf 170) (.tf xe1_208 (.vf 198) (.tf xe1_209 (.vf 226) (.tf xe1_210 (.vf 255) (.vf 284))))))))))),
  (1581515652, 299, (.tf xe1_202 xe1_33 (.tf xe1_203 xe1_34 (.tf xe1_204 xe1_9 (.tf xe1_205 (.vf 115) (.tf xe1_206 (.vf 142) (.tf xe1_207 (.vf 169) (.tf xe1_208 (.vf 197) (.tf xe1_209 (.vf 225) (.tf xe1_210 (.vf 254) (.vf 283))))))))))),
  (15023977, 300, (.tf xe1_212 xe1_30 (.tf xe1_213 xe1_32 (.tf xe1_214 xe1_9 (.tf xe1_215 (.vf 116) (.tf xe1_216 (.vf 143) (.tf xe1_217 (.vf 170) (.tf xe1_218 (.vf 198) (.tf xe1_219 (.vf 226) (.tf xe1_220 (.vf 255) (.vf 284))))))))))),
  (1771728662, 301, (.tf xe1_212 xe1_33 (.tf xe1_213 xe1_34 (.tf xe1_214 xe1_9 (.tf xe1_215 (.vf 115) (.tf xe1_216 (.vf 142) (.tf xe1_217 (.vf 169) (.tf xe1_218 (.vf 197) (.tf xe1_219 (.vf 225) (.tf xe1_220 (.vf 254) (.vf 283))))))))))),
  (1419080990, 302, (.af 20 0 (.cf (.vf 298) (.cf (.vf 299) (.cf (.vf 300) (.cf (.vf 301) .n0)))))),
  (1420080993, 303, (.af 20 1 (.cf (.vf 298) (.cf (.vf 299) (.cf (.vf 300) (.cf (.vf 301) .n0)))))),
  (697702196, 304, (.af 21 0 (.cf (.vf 298) (.cf (.vf 299) (.cf (.vf 300) (.cf (.vf 301) .n0)))))),
  (698702199, 305, (.af 21 1 (.cf (.vf 298) (.cf (.vf 299) (.cf (.vf 300) (.cf (.vf 301) .n0)))))),
  (4271290693, 306, (.af 22 0 (.cf (.vf 298) (.cf (.vf 299) (.cf (.vf 300) (.cf (.vf 301) .n0)))))),
  (4272290696, 307, (.af 22 1 (.cf (.vf 298) (.cf (.vf 299) (.cf (.vf 300) (.cf (.vf 301) .n0)))))),
  (290400881, 308, (.tf xe1_222 (.vf 305) (.vf 307))),
  (289400877, 309, (.tf xe1_222 (.vf 304) (.vf 306))),
  (1731158464, 310, (.tf xe1_223 (.vf 303) (.vf 308))),
  (1730158462, 311, (.tf xe1_223 (.vf 302) (.vf 309))),
  (519539960, 312, (.tf xe1_197 xe1_224 (.vf 310))),
  (519539961, 313, (.tf xe1_197 xe1_224 (.vf 311))),
  (2597994325, 314, (.tf xe1_226 (.vf 255) (.tf xe1_227 (.vf 284) (.vf 313)))),
  (2595994318, 315, (.tf xe1_226 (.vf 254) (.tf xe1_227 (.vf 283) (.vf 312)))),
  (306031783, 316, (.tf xe1_229 (.vf 255) (.tf xe1_230 (.vf 284) (.vf 313)))),
  (304031776, 317, (.tf xe1_229 (.vf 254) (.tf xe1_230 (.vf 283) (.vf 312))))]
set_option maxRecDepth 1000000 in
set_option maxHeartbeats 100000000 in
theorem xG1 : tabGood 100 xN1 = true := by kernel_rfl
end Go.Proofs.Ytilhcamdjehpnaa
