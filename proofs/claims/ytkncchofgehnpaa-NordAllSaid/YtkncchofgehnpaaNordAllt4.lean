/-
  'NordAll': what names stand for, where the first rest is 4.
-/
import Derived.Test.YtkncchofgehnpaaM8n
namespace Go.Proofs.Ytkncchofgehnpaa
open Go.RowKit Ex
def ne4_0 : E := (.ib .quo .i64 (.vi 1) (.li 3))
def ne4_1 : E := (.ai 9 0 (.ci (.ib .add .i64 ne4_0 (.li 0)) (.ci (.li 3) .n0)))
def ne4_2 : E := (.ib .sub .i64 (.li 2) ne4_1)
def ne4_3 : E := (.ic .eql ne4_2 (.li 0))
def ne4_4 : E := (.fb .quo (.i2f (.ib .sub .i64 (.ai 9 0 (.ci (.ti (.ic .lss (.li 0) (.vl 5)) (.at 5 0) (.li 0)) (.ci (.li 65) .n0))) (.li 32))) (.lf 4620693217682128896))
def ne4_5 : E := (.ic .eql ne4_2 (.li 1))
def ne4_6 : E := (.fb .quo (.i2f (.ib .sub .i64 (.ai 9 0 (.ci (.ti (.ic .lss (.li 1) (.vl 5)) (.at 5 1) (.li 1)) (.ci (.li 65) .n0))) (.li 32))) (.lf 4620693217682128896))
def ne4_7 : E := (.fb .quo (.i2f (.ib .sub .i64 (.ai 9 0 (.ci (.vi 1) (.ci (.li 17) .n0))) (.li 8))) (.lf 4616189618054758400))
def ne4_8 : E := (.ai 9 0 (.ci (.ib .add .i64 ne4_0 (.li 1)) (.ci (.li 3) .n0)))
def ne4_9 : E := (.ib .sub .i64 (.li 2) ne4_8)
def ne4_10 : E := (.fb .quo (.i2f (.ib .shl .i64 (.li 1) (.iw .u64 (.ai 9 0 (.ci (.vi 6) (.ci (.li 33) .n0)))))) (.lf 4742290407621132288))
def ne4_11 : E := (.ib .sub .i64 (.ib .sub .i64 (.li 3) ne4_1) (.li 1))
def ne4_12 : E := (.ic .eql ne4_11 (.li 0))
def ne4_13 : E := (.ic .eql ne4_11 (.li 1))
def ne4_14 : E := (.fb .quo (.i2f (.ib .sub .i64 (.ai 9 0 (.ci (.ti (.ic .lss (.li 2) (.vl 5)) (.at 5 2) (.li 2)) (.ci (.li 65) .n0))) (.li 32))) (.lf 4620693217682128896))
def ne4_15 : E := (.ib .sub .i64 (.ib .sub .i64 (.li 3) ne4_8) (.li 1))
def ne4_16 : E := (.ic .eql ne4_15 (.li 0))
def ne4_17 : E := (.ic .eql ne4_15 (.li 1))
def ne4_18 : E := (.ai 9 0 (.ci (.ib .add .i64 ne4_0 (.li 2)) (.ci (.li 3) .n0)))
def ne4_19 : E := (.ib .sub .i64 (.ib .sub .i64 (.li 3) ne4_18) (.li 1))
def ne4_20 : E := (.ic .eql (.ai 9 0 (.ci (.at 2 0) (.ci (.li 11) .n0))) (.li 0))
def ne4_21 : E := (.ib .quo .i64 (.at 2 0) (.li 4))
def ne4_22 : E := (.tf (.ic .eql (.ti ne4_20 (.li 0) (.ai 9 0 (.ci ne4_21 (.ci (.li 2) .n0)))) (.li 0)) ne4_4 ne4_7)
def ne4_23 : E := (.ib .quo .i64 (.at 2 0) (.li 40))
def ne4_24 : E := (.tf (.ic .eql (.ti ne4_20 (.li 0) (.ai 9 0 (.ci ne4_23 (.ci (.li 2) .n0)))) (.li 0)) ne4_4 ne4_7)
def ne4_25 : E := (.ib .add .i64 (.li 2) (.ai 9 0 (.ci (.at 2 0) (.ci (.li 3) .n0))))
def ne4_26 : E := (.ic .eql ne4_25 (.li 3))
def ne4_27 : E := (.ic .eql ne4_25 (.li 2))
def ne4_28 : E := (.ic .eql (.ai 9 0 (.ci (.at 2 0) (.ci (.li 7) .n0))) (.li 0))
def ne4_29 : E := (.tf ne4_20 (.fb .quo (.i2f (.ib .sub .i64 (.ai 9 0 (.ci (.ib .quo .i64 (.at 2 0) (.li 11)) (.ci (.li 33) .n0))) (.li 16))) (.lf 4620693217682128896)) (.lf 0))
def ne4_30 : E := (.ti ne4_20 (.li 0) (.ai 9 0 (.ci ne4_21 (.ci (.li 3) .n0))))
def ne4_31 : E := (.ti ne4_20 (.li 0) (.ai 9 0 (.ci ne4_23 (.ci (.li 3) .n0))))
def ne4_32 : E := (.ti ne4_20 (.li 0) (.ai 9 0 (.ci ne4_21 (.ci (.li 4) .n0))))
def ne4_33 : E := (.ti ne4_20 (.li 0) (.ai 9 0 (.ci ne4_23 (.ci (.li 4) .n0))))
def ne4_34 : E := (.ib .sub .i64 (.ib .sub .i64 (.li 4) ne4_1) (.li 2))
def ne4_35 : E := (.ic .eql ne4_34 (.li 0))
def ne4_36 : E := (.ic .eql ne4_34 (.li 1))
def ne4_37 : E := (.ib .sub .i64 (.ib .sub .i64 (.li 4) ne4_8) (.li 2))
def ne4_38 : E := (.ic .eql ne4_37 (.li 0))
def ne4_39 : E := (.ic .eql ne4_37 (.li 1))
def ne4_40 : E := (.ib .sub .i64 (.ib .sub .i64 (.li 4) ne4_18) (.li 2))
def ne4_41 : E := (.ic .eql (.ai 9 0 (.ci (.at 2 1) (.ci (.li 11) .n0))) (.li 0))
def ne4_42 : E := (.ib .quo .i64 (.at 2 1) (.li 4))
def ne4_43 : E := (.ti ne4_41 (.li 0) (.ai 9 0 (.ci ne4_42 (.ci (.li 3) .n0))))
def ne4_44 : E := (.ib .quo .i64 (.at 2 1) (.li 40))
def ne4_45 : E := (.ti ne4_41 (.li 0) (.ai 9 0 (.ci ne4_44 (.ci (.li 3) .n0))))
def ne4_46 : E := (.ib .add .i64 (.li 2) (.ai 9 0 (.ci (.at 2 1) (.ci (.li 3) .n0))))
def ne4_47 : E := (.ic .eql ne4_46 (.li 3))
def ne4_48 : E := (.ic .eql ne4_46 (.li 2))
def ne4_49 : E := (.ic .eql (.ai 9 0 (.ci (.at 2 1) (.ci (.li 7) .n0))) (.li 0))
def ne4_50 : E := (.tf ne4_41 (.fb .quo (.i2f (.ib .sub .i64 (.ai 9 0 (.ci (.ib .quo .i64 (.at 2 1) (.li 11)) (.ci (.li 33) .n0))) (.li 16))) (.lf 4620693217682128896)) (.lf 0))
def ne4_51 : E := (.ti ne4_41 (.li 0) (.ai 9 0 (.ci ne4_42 (.ci (.li 4) .n0))))
def ne4_52 : E := (.ti ne4_41 (.li 0) (.ai 9 0 (.ci ne4_44 (.ci (.li 4) .n0))))
def ne4_53 : E := (.ti ne4_41 (.li 0) (.ai 9 0 (.ci ne4_42 (.ci (.li 5) .n0))))
def ne4_54 : E := (.ti ne4_41 (.li 0) (.ai 9 0 (.ci ne4_44 (.ci (.li 5) .n0))))
def ne4_55 : E := (.ib .sub .i64 (.ib .sub .i64 (.li 5) ne4_1) (.li 3))
def ne4_56 : E := (.ic .eql ne4_55 (.li 0))
def ne4_57 : E := (.ic .eql ne4_55 (.li 1))
def ne4_58 : E := (.ib .sub .i64 (.ib .sub .i64 (.li 5) ne4_8) (.li 3))
def ne4_59 : E := (.ic .eql ne4_58 (.li 0))
def ne4_60 : E := (.ic .eql ne4_58 (.li 1))
def ne4_61 : E := (.ib .sub .i64 (.ib .sub .i64 (.li 5) ne4_18) (.li 3))
def ne4_62 : E := (.ic .eql (.ai 9 0 (.ci (.at 2 2) (.ci (.li 11) .n0))) (.li 0))
def ne4_63 : E := (.ib .quo .i64 (.at 2 2) (.li 4))
def ne4_64 : E := (.ti ne4_62 (.li 0) (.ai 9 0 (.ci ne4_63 (.ci (.li 4) .n0))))
def ne4_65 : E := (.ib .quo .i64 (.at 2 2) (.li 40))
def ne4_66 : E := (.ti ne4_62 (.li 0) (.ai 9 0 (.ci ne4_65 (.ci (.li 4) .n0))))
def ne4_67 : E := (.ib .add .i64 (.li 2) (.ai 9 0 (.ci (.at 2 2) (.ci (.li 3) .n0))))
def ne4_68 : E := (.ic .eql ne4_67 (.li 3))
def ne4_69 : E := (.ic .eql ne4_67 (.li 2))
def ne4_70 : E := (.ic .eql (.ai 9 0 (.ci (.at 2 2) (.ci (.li 7) .n0))) (.li 0))
def ne4_71 : E := (.tf ne4_62 (.fb .quo (.i2f (.ib .sub .i64 (.ai 9 0 (.ci (.ib .quo .i64 (.at 2 2) (.li 11)) (.ci (.li 33) .n0))) (.li 16))) (.lf 4620693217682128896)) (.lf 0))
def ne4_72 : E := (.ti ne4_62 (.li 0) (.ai 9 0 (.ci ne4_63 (.ci (.li 5) .n0))))
def ne4_73 : E := (.ti ne4_62 (.li 0) (.ai 9 0 (.ci ne4_65 (.ci (.li 5) .n0))))
def ne4_74 : E := (.ti ne4_62 (.li 0) (.ai 9 0 (.ci ne4_63 (.ci (.li 6) .n0))))
def ne4_75 : E := (.ti ne4_62 (.li 0) (.ai 9 0 (.ci ne4_65 (.ci (.li 6) .n0))))
def ne4_76 : E := (.ib .sub .i64 (.ib .sub .i64 (.li 6) ne4_1) (.li 4))
def ne4_77 : E := (.ic .eql ne4_76 (.li 0))
def ne4_78 : E := (.ic .eql ne4_76 (.li 1))
def ne4_79 : E := (.ib .sub .i64 (.ib .sub .i64 (.li 6) ne4_8) (.li 4))
def ne4_80 : E := (.ic .eql ne4_79 (.li 0))
def ne4_81 : E := (.ic .eql ne4_79 (.li 1))
def ne4_82 : E := (.ib .sub .i64 (.ib .sub .i64 (.li 6) ne4_18) (.li 4))
def ne4_83 : E := (.fb .quo (.i2f (.ib .sub .i64 (.ai 9 0 (.ci (.at 2 1) (.ci (.li 201) .n0))) (.li 100))) (.lf 4619567317775286272))
def ne4_84 : E := (.fb .quo (.i2f (.ib .sub .i64 (.ai 9 0 (.ci (.at 2 2) (.ci (.li 201) .n0))) (.li 100))) (.lf 4619567317775286272))
def ne4_85 : E := (.fb .quo (.i2f (.ib .sub .i64 (.ai 9 0 (.ci (.at 2 3) (.ci (.li 201) .n0))) (.li 100))) (.lf 4619567317775286272))
def ne4_86 : E := (.fb .add ne4_85 (.lf 13851745500330009746))
def ne4_87 : E := (.fb .add ne4_84 ne4_86)
def ne4_88 : E := (.fb .mul (.lf 13847201689991680585) (.vf 4))
def ne4_89 : E := (.fb .mul (.fb .add ne4_88 (.lf 13847282111413597915)) (.vf 4))
def ne4_90 : E := (.fb .quo (.i2f (.ib .sub .i64 (.ai 9 0 (.ci (.at 2 0) (.ci (.li 201) .n0))) (.li 100))) (.lf 4619567317775286272))
def ne4_91 : E := (.ic .eql (.ai 9 0 (.ci (.at 2 3) (.ci (.li 11) .n0))) (.li 0))
def ne4_92 : E := (.ib .quo .i64 (.at 2 3) (.li 4))
def ne4_93 : E := (.ti ne4_91 (.li 0) (.ai 9 0 (.ci ne4_92 (.ci (.li 5) .n0))))
def ne4_94 : E := (.ib .quo .i64 (.at 2 3) (.li 40))
def ne4_95 : E := (.ti ne4_91 (.li 0) (.ai 9 0 (.ci ne4_94 (.ci (.li 5) .n0))))
def ne4_96 : E := (.ib .add .i64 (.li 2) (.ai 9 0 (.ci (.at 2 3) (.ci (.li 3) .n0))))
def ne4_97 : E := (.ic .eql ne4_96 (.li 3))
def ne4_98 : E := (.ic .eql ne4_96 (.li 2))
def ne4_99 : E := (.ic .eql (.ai 9 0 (.ci (.at 2 3) (.ci (.li 7) .n0))) (.li 0))
def ne4_100 : E := (.tf ne4_91 (.fb .quo (.i2f (.ib .sub .i64 (.ai 9 0 (.ci (.ib .quo .i64 (.at 2 3) (.li 11)) (.ci (.li 33) .n0))) (.li 16))) (.lf 4620693217682128896)) (.lf 0))
def ne4_101 : E := (.ti ne4_91 (.li 0) (.ai 9 0 (.ci ne4_92 (.ci (.li 6) .n0))))
def ne4_102 : E := (.ti ne4_91 (.li 0) (.ai 9 0 (.ci ne4_94 (.ci (.li 6) .n0))))
def ne4_103 : E := (.ti ne4_91 (.li 0) (.ai 9 0 (.ci ne4_92 (.ci (.li 7) .n0))))
def ne4_104 : E := (.ti ne4_91 (.li 0) (.ai 9 0 (.ci ne4_94 (.ci (.li 7) .n0))))
def ne4_105 : E := (.ib .sub .i64 (.ib .sub .i64 (.li 7) ne4_1) (.li 5))
def ne4_106 : E := (.ic .eql ne4_105 (.li 0))
def ne4_107 : E := (.ic .eql ne4_105 (.li 1))
def ne4_108 : E := (.ib .sub .i64 (.ib .sub .i64 (.li 7) ne4_8) (.li 5))
def ne4_109 : E := (.ic .eql ne4_108 (.li 0))
def ne4_110 : E := (.ic .eql ne4_108 (.li 1))
def ne4_111 : E := (.ib .sub .i64 (.ib .sub .i64 (.li 7) ne4_18) (.li 5))
def ne4_112 : E := (.fb .quo (.i2f (.ib .sub .i64 (.ai 9 0 (.ci (.at 2 4) (.ci (.li 201) .n0))) (.li 100))) (.lf 4619567317775286272))
def ne4_113 : E := (.fb .add ne4_112 (.lf 13847201689991680585))
def ne4_114 : E := (.fb .add ne4_85 ne4_113)
def ne4_115 : E := (.fb .add ne4_84 ne4_114)
def ne4_116 : E := (.fb .add ne4_83 ne4_115)
def ne4_117 : E := (.fb .add ne4_113 (.lf 13847201689991680585))
def ne4_118 : E := (.fb .add ne4_114 ne4_117)
def ne4_119 : E := (.fb .add ne4_117 (.lf 13847201689991680585))
def ne4_120 : E := (.fb .add ne4_118 ne4_119)
def ne4_121 : E := (.ic .eql (.ai 9 0 (.ci (.at 2 4) (.ci (.li 11) .n0))) (.li 0))
def ne4_122 : E := (.ib .quo .i64 (.at 2 4) (.li 4))
def ne4_123 : E := (.ti ne4_121 (.li 0) (.ai 9 0 (.ci ne4_122 (.ci (.li 6) .n0))))
def ne4_124 : E := (.ib .quo .i64 (.at 2 4) (.li 40))
def ne4_125 : E := (.ti ne4_121 (.li 0) (.ai 9 0 (.ci ne4_124 (.ci (.li 6) .n0))))
def ne4_126 : E := (.ib .add .i64 (.li 2) (.ai 9 0 (.ci (.at 2 4) (.ci (.li 3) .n0))))
def ne4_127 : E := (.ic .eql ne4_126 (.li 3))
def ne4_128 : E := (.ic .eql ne4_126 (.li 2))
def ne4_129 : E := (.ic .eql (.ai 9 0 (.ci (.at 2 4) (.ci (.li 7) .n0))) (.li 0))
def ne4_130 : E := (.tf ne4_121 (.fb .quo (.i2f (.ib .sub .i64 (.ai 9 0 (.ci (.ib .quo .i64 (.at 2 4) (.li 11)) (.ci (.li 33) .n0))) (.li 16))) (.lf 4620693217682128896)) (.lf 0))
def ne4_131 : E := (.ti ne4_121 (.li 0) (.ai 9 0 (.ci ne4_122 (.ci (.li 7) .n0))))
def ne4_132 : E := (.ti ne4_121 (.li 0) (.ai 9 0 (.ci ne4_124 (.ci (.li 7) .n0))))
def ne4_133 : E := (.ti ne4_121 (.li 0) (.ai 9 0 (.ci ne4_122 (.ci (.li 8) .n0))))
def ne4_134 : E := (.ti ne4_121 (.li 0) (.ai 9 0 (.ci ne4_124 (.ci (.li 8) .n0))))
def ne4_135 : E := (.ib .sub .i64 (.ib .sub .i64 (.li 8) ne4_1) (.li 6))
def ne4_136 : E := (.ic .eql ne4_135 (.li 0))
def ne4_137 : E := (.ic .eql ne4_135 (.li 1))
def ne4_138 : E := (.ib .sub .i64 (.ib .sub .i64 (.li 8) ne4_8) (.li 6))
def ne4_139 : E := (.ic .eql ne4_138 (.li 0))
def ne4_140 : E := (.ic .eql ne4_138 (.li 1))
def ne4_141 : E := (.ib .sub .i64 (.ib .sub .i64 (.li 8) ne4_18) (.li 6))
def ne4_142 : E := (.fb .quo (.i2f (.ib .sub .i64 (.ai 9 0 (.ci (.at 2 5) (.ci (.li 201) .n0))) (.li 100))) (.lf 4619567317775286272))
def ne4_143 : E := (.fb .add ne4_112 ne4_142)
def ne4_144 : E := (.fb .add ne4_85 ne4_143)
def ne4_145 : E := (.fb .add ne4_84 ne4_144)
def ne4_146 : E := (.fb .add ne4_83 ne4_145)
def ne4_147 : E := (.fb .add ne4_143 ne4_142)
def ne4_148 : E := (.fb .add ne4_147 ne4_142)
def ne4_149 : E := (.fb .add ne4_148 ne4_142)
def ne4_150 : E := (.ic .eql (.ai 9 0 (.ci (.at 2 5) (.ci (.li 11) .n0))) (.li 0))
def ne4_151 : E := (.ib .quo .i64 (.at 2 5) (.li 4))
def ne4_152 : E := (.ti ne4_150 (.li 0) (.ai 9 0 (.ci ne4_151 (.ci (.li 7) .n0))))
def ne4_153 : E := (.ib .quo .i64 (.at 2 5) (.li 40))
def ne4_154 : E := (.ti ne4_150 (.li 0) (.ai 9 0 (.ci ne4_153 (.ci (.li 7) .n0))))
def ne4_155 : E := (.ib .add .i64 (.li 2) (.ai 9 0 (.ci (.at 2 5) (.ci (.li 3) .n0))))
def ne4_156 : E := (.ic .eql ne4_155 (.li 3))
def ne4_157 : E := (.ic .eql ne4_155 (.li 2))
def ne4_158 : E := (.ic .eql (.ai 9 0 (.ci (.at 2 5) (.ci (.li 7) .n0))) (.li 0))
def ne4_159 : E := (.tf ne4_150 (.fb .quo (.i2f (.ib .sub .i64 (.ai 9 0 (.ci (.ib .quo .i64 (.at 2 5) (.li 11)) (.ci (.li 33) .n0))) (.li 16))) (.lf 4620693217682128896)) (.lf 0))
def ne4_160 : E := (.ti ne4_150 (.li 0) (.ai 9 0 (.ci ne4_151 (.ci (.li 8) .n0))))
def ne4_161 : E := (.ti ne4_150 (.li 0) (.ai 9 0 (.ci ne4_153 (.ci (.li 8) .n0))))
def ne4_162 : E := (.ti ne4_150 (.li 0) (.ai 9 0 (.ci ne4_151 (.ci (.li 9) .n0))))
def ne4_163 : E := (.ti ne4_150 (.li 0) (.ai 9 0 (.ci ne4_153 (.ci (.li 9) .n0))))
def ne4_164 : E := (.ib .sub .i64 (.ib .sub .i64 (.li 9) ne4_1) (.li 7))
def ne4_165 : E := (.ic .eql ne4_164 (.li 0))
def ne4_166 : E := (.ic .eql ne4_164 (.li 1))
def ne4_167 : E := (.ib .sub .i64 (.ib .sub .i64 (.li 9) ne4_8) (.li 7))
def ne4_168 : E := (.ic .eql ne4_167 (.li 0))
def ne4_169 : E := (.ic .eql ne4_167 (.li 1))
def ne4_170 : E := (.ib .sub .i64 (.ib .sub .i64 (.li 9) ne4_18) (.li 7))
def ne4_171 : E := (.ic .eql (.ai 9 0 (.ci (.at 2 6) (.ci (.li 11) .n0))) (.li 0))
def ne4_172 : E := (.ib .quo .i64 (.at 2 6) (.li 4))
def ne4_173 : E := (.ti ne4_171 (.li 0) (.ai 9 0 (.ci ne4_172 (.ci (.li 8) .n0))))
def ne4_174 : E := (.ib .quo .i64 (.at 2 6) (.li 40))
def ne4_175 : E := (.ti ne4_171 (.li 0) (.ai 9 0 (.ci ne4_174 (.ci (.li 8) .n0))))
def ne4_176 : E := (.ib .add .i64 (.li 2) (.ai 9 0 (.ci (.at 2 6) (.ci (.li 3) .n0))))
def ne4_177 : E := (.ic .eql ne4_176 (.li 3))
def ne4_178 : E := (.ic .eql ne4_176 (.li 2))
def ne4_179 : E := (.ic .eql (.ai 9 0 (.ci (.at 2 6) (.ci (.li 7) .n0))) (.li 0))
def ne4_180 : E := (.tf ne4_171 (.fb .quo (.i2f (.ib .sub .i64 (.ai 9 0 (.ci (.ib .quo .i64 (.at 2 6) (.li 11)) (.ci (.li 33) .n0))) (.li 16))) (.lf 4620693217682128896)) (.lf 0))
def ne4_181 : E := (.fb .quo (.i2f (.ib .sub .i64 (.ai 9 0 (.ci (.at 2 6) (.ci (.li 201) .n0))) (.li 100))) (.lf 4619567317775286272))
def ne4_182 : E := (.fb .add ne4_181 (.lf 13851745500330009746))
def ne4_183 : E := (.fb .add ne4_112 ne4_182)
def ne4_184 : E := (.ti ne4_171 (.li 0) (.ai 9 0 (.ci ne4_172 (.ci (.li 9) .n0))))
def ne4_185 : E := (.ti ne4_171 (.li 0) (.ai 9 0 (.ci ne4_174 (.ci (.li 9) .n0))))
def ne4_186 : E := (.ti ne4_171 (.li 0) (.ai 9 0 (.ci ne4_172 (.ci (.li 10) .n0))))
def ne4_187 : E := (.ti ne4_171 (.li 0) (.ai 9 0 (.ci ne4_174 (.ci (.li 10) .n0))))
def ne4_188 : E := (.ib .sub .i64 (.ib .sub .i64 (.li 10) ne4_1) (.li 8))
def ne4_189 : E := (.ic .eql ne4_188 (.li 0))
def ne4_190 : E := (.ic .eql ne4_188 (.li 1))
def ne4_191 : E := (.ib .sub .i64 (.ib .sub .i64 (.li 10) ne4_8) (.li 8))
def ne4_192 : E := (.ic .eql ne4_191 (.li 0))
def ne4_193 : E := (.ic .eql ne4_191 (.li 1))
def ne4_194 : E := (.ib .sub .i64 (.ib .sub .i64 (.li 10) ne4_18) (.li 8))
def ne4_195 : E := (.ic .eql (.ai 9 0 (.ci (.at 2 7) (.ci (.li 11) .n0))) (.li 0))
def ne4_196 : E := (.ib .quo .i64 (.at 2 7) (.li 4))
def ne4_197 : E := (.ti ne4_195 (.li 0) (.ai 9 0 (.ci ne4_196 (.ci (.li 9) .n0))))
def ne4_198 : E := (.ib .quo .i64 (.at 2 7) (.li 40))
def ne4_199 : E := (.ti ne4_195 (.li 0) (.ai 9 0 (.ci ne4_198 (.ci (.li 9) .n0))))
def ne4_200 : E := (.ib .add .i64 (.li 2) (.ai 9 0 (.ci (.at 2 7) (.ci (.li 3) .n0))))
def ne4_201 : E := (.ic .eql ne4_200 (.li 3))
def ne4_202 : E := (.ic .eql ne4_200 (.li 2))
def ne4_203 : E := (.ic .eql (.ai 9 0 (.ci (.at 2 7) (.ci (.li 7) .n0))) (.li 0))
def ne4_204 : E := (.tf ne4_195 (.fb .quo (.i2f (.ib .sub .i64 (.ai 9 0 (.ci (.ib .quo .i64 (.at 2 7) (.li 11)) (.ci (.li 33) .n0))) (.li 16))) (.lf 4620693217682128896)) (.lf 0))
def ne4_205 : E := (.fb .quo (.i2f (.ib .sub .i64 (.ai 9 0 (.ci (.ti (.ic .lss (.li 8) (.vl 2)) (.at 2 8) (.li 4)) (.ci (.li 201) .n0))) (.li 100))) (.lf 4619567317775286272))
def ne4_206 : E := (.ic .lss (.li 10) (.vl 2))
def ne4_207 : E := (.fb .quo (.i2f (.ib .sub .i64 (.ai 9 0 (.ci (.ti ne4_206 (.at 2 10) (.li 5)) (.ci (.li 201) .n0))) (.li 100))) (.lf 4619567317775286272))
def ne4_208 : E := (.fb .add ne4_205 ne4_207)
def ne4_209 : E := (.fb .add ne4_181 ne4_208)
def ne4_210 : E := (.fb .add ne4_112 ne4_209)
def ne4_211 : E := (.fb .quo (.i2f (.ib .sub .i64 (.ai 9 0 (.ci (.at 2 7) (.ci (.li 201) .n0))) (.li 100))) (.lf 4619567317775286272))
def ne4_212 : E := (.ic .lss (.li 9) (.vl 2))
def ne4_213 : E := (.fb .quo (.i2f (.ib .sub .i64 (.ai 9 0 (.ci (.ti ne4_212 (.at 2 9) (.li 5)) (.ci (.li 201) .n0))) (.li 100))) (.lf 4619567317775286272))
def ne4_214 : E := (.ic .lss (.li 11) (.vl 2))
def ne4_215 : E := (.fb .quo (.i2f (.ib .sub .i64 (.ai 9 0 (.ci (.ti ne4_214 (.at 2 11) (.li 6)) (.ci (.li 201) .n0))) (.li 100))) (.lf 4619567317775286272))
def ne4_216 : E := (.fb .add ne4_213 ne4_215)
def ne4_217 : E := (.fb .add ne4_211 ne4_216)
def ne4_218 : E := (.fb .add ne4_142 ne4_217)
def ne4_219 : E := (.fb .add ne4_208 ne4_207)
def ne4_220 : E := (.fb .add ne4_216 ne4_215)
def ne4_221 : E := (.ti ne4_195 (.li 0) (.ai 9 0 (.ci ne4_196 (.ci (.li 10) .n0))))
def ne4_222 : E := (.ti ne4_195 (.li 0) (.ai 9 0 (.ci ne4_198 (.ci (.li 10) .n0))))
def ne4_223 : E := (.fb .quo (.i2f (.ib .sub .i64 (.ai 9 0 (.ci (.ti ne4_212 (.at 2 9) (.li 3)) (.ci (.li 201) .n0))) (.li 100))) (.lf 4619567317775286272))
def ne4_224 : E := (.fb .quo (.i2f (.ib .sub .i64 (.ai 9 0 (.ci (.ti (.ic .lss (.li 12) (.vl 2)) (.at 2 12) (.li 4)) (.ci (.li 201) .n0))) (.li 100))) (.lf 4619567317775286272))
def ne4_225 : E := (.fb .quo (.i2f (.ib .sub .i64 (.ai 9 0 (.ci (.ti (.ic .lss (.li 15) (.vl 2)) (.at 2 15) (.li 5)) (.ci (.li 201) .n0))) (.li 100))) (.lf 4619567317775286272))
def ne4_226 : E := (.fb .add ne4_224 ne4_225)
def ne4_227 : E := (.fb .add ne4_223 ne4_226)
def ne4_228 : E := (.fb .quo (.i2f (.ib .sub .i64 (.ai 9 0 (.ci (.ti ne4_206 (.at 2 10) (.li 4)) (.ci (.li 201) .n0))) (.li 100))) (.lf 4619567317775286272))
def ne4_229 : E := (.fb .quo (.i2f (.ib .sub .i64 (.ai 9 0 (.ci (.ti (.ic .lss (.li 13) (.vl 2)) (.at 2 13) (.li 5)) (.ci (.li 201) .n0))) (.li 100))) (.lf 4619567317775286272))
def ne4_230 : E := (.fb .quo (.i2f (.ib .sub .i64 (.ai 9 0 (.ci (.ti (.ic .lss (.li 16) (.vl 2)) (.at 2 16) (.li 6)) (.ci (.li 201) .n0))) (.li 100))) (.lf 4619567317775286272))
def ne4_231 : E := (.fb .add ne4_229 ne4_230)
def ne4_232 : E := (.fb .add ne4_228 ne4_231)
def ne4_233 : E := (.fb .quo (.i2f (.ib .sub .i64 (.ai 9 0 (.ci (.ti ne4_214 (.at 2 11) (.li 5)) (.ci (.li 201) .n0))) (.li 100))) (.lf 4619567317775286272))
def ne4_234 : E := (.fb .quo (.i2f (.ib .sub .i64 (.ai 9 0 (.ci (.ti (.ic .lss (.li 14) (.vl 2)) (.at 2 14) (.li 6)) (.ci (.li 201) .n0))) (.li 100))) (.lf 4619567317775286272))
def ne4_235 : E := (.fb .quo (.i2f (.ib .sub .i64 (.ai 9 0 (.ci (.ti (.ic .lss (.li 17) (.vl 2)) (.at 2 17) (.li 7)) (.ci (.li 201) .n0))) (.li 100))) (.lf 4619567317775286272))
def ne4_236 : E := (.fb .add ne4_234 ne4_235)
def ne4_237 : E := (.fb .add ne4_233 ne4_236)
def ne4_238 : E := (.fb .add ne4_226 ne4_225)
def ne4_239 : E := (.fb .add ne4_231 ne4_230)
def ne4_240 : E := (.fb .add ne4_236 ne4_235)
def ne4_241 : E := (.ti ne4_195 (.li 0) (.ai 9 0 (.ci ne4_196 (.ci (.li 11) .n0))))
def ne4_242 : E := (.ti ne4_195 (.li 0) (.ai 9 0 (.ci ne4_198 (.ci (.li 11) .n0))))
def ne4_243 : E := (.ib .sub .i64 (.ib .sub .i64 (.li 11) ne4_1) (.li 9))
def ne4_244 : E := (.ib .sub .i64 (.ib .sub .i64 (.li 11) ne4_8) (.li 9))
def ne4_245 : E := (.ib .sub .i64 (.ib .sub .i64 (.li 11) ne4_18) (.li 9))
def nN4 : Nms := [(362731446, 100, (.tf ne4_3 ne4_4 (.tf ne4_5 ne4_6 ne4_7))),
  (2962095690, 101, (.tf (.ic .eql ne4_9 (.li 0)) ne4_4 (.tf (.ic .eql ne4_9 (.li 1)) ne4_6 ne4_7))),
  (2867591044, 102, (.fb .mul ne4_10 (.vf 100))),
  (2867591045, 103, (.fb .mul ne4_10 (.vf 101))),
  (3040827088, 104, (.tf ne4_12 ne4_6 (.tf ne4_13 ne4_14 ne4_7))),
  (748864546, 105, (.tf ne4_16 ne4_6 (.tf ne4_17 ne4_14 ne4_7))),
  (2751869295, 106, (.tf (.ic .eql ne4_19 (.li 0)) ne4_6 (.tf (.ic .eql ne4_19 (.li 1)) ne4_14 ne4_7))),
  (2867591048, 107, (.fb .mul ne4_10 (.vf 104))),
  (2867591049, 108, (.fb .mul ne4_10 (.vf 105))),
  (2867591050, 109, (.fb .mul ne4_10 (.vf 106))),
  (3346043704, 110, (.fb .add ne4_22 ne4_24)),
  (2624664910, 111, (.fb .sub ne4_22 ne4_24)),
  (1903286116, 112, (.fb .mul ne4_22 ne4_24)),
  (1416972978, 113, (.tf ne4_26 (.vf 111) (.vf 112))),
  (2858730564, 114, (.tf ne4_27 (.vf 110) (.vf 113))),
  (1181907322, 115, (.fb .quo ne4_22 ne4_24)),
  (1911084014, 116, (.tf ne4_28 (.vf 115) (.vf 114))),
  (1493552807, 117, (.tf ne4_20 ne4_29 (.tf (.vb 7) (.vf 116) (.vf 114)))),
  (3808619061, 118, (.tf ne4_3 ne4_4 (.tf ne4_5 ne4_7 (.vf 117)))),
  (2867591062, 119, (.fb .mul ne4_10 (.vf 118))),
  (3650053717, 120, (.tf (.ic .eql ne4_30 (.li 0)) ne4_4 (.tf (.ic .eql ne4_30 (.li 1)) ne4_6 ne4_7))),
  (2737886099, 121, (.tf (.ic .eql ne4_31 (.li 0)) ne4_4 (.tf (.ic .eql ne4_31 (.li 1)) ne4_6 ne4_7))),
  (706907051, 122, (.tf ne4_26 (.fb .sub (.vf 120) (.vf 121)) (.fb .mul (.vf 120) (.vf 121)))),
  (4055025637, 123, (.tf ne4_27 (.fb .add (.vf 120) (.vf 121)) (.vf 122))),
  (4051591715, 124, (.tf ne4_28 (.fb .quo (.vf 120) (.vf 121)) (.vf 123))),
  (1501552840, 125, (.tf ne4_20 ne4_29 (.tf (.vb 7) (.vf 124) (.vf 123)))),
  (1780051675, 126, (.tf ne4_12 ne4_6 (.tf ne4_13 ne4_7 (.vf 125)))),
  (3783056424, 127, (.tf ne4_16 ne4_6 (.tf ne4_17 ne4_7 (.vf 125)))),
  (2867591070, 128, (.fb .mul ne4_10 (.vf 126))),
  (2867591071, 129, (.fb .mul ne4_10 (.vf 127))),
  (4110528131, 130, (.tf (.ic .eql ne4_32 (.li 0)) ne4_4 (.tf (.ic .eql ne4_32 (.li 1)) ne4_6 (.tf (.ic .eql ne4_32 (.li 2)) ne4_14 ne4_7)))),
  (2742276704, 131, (.tf (.ic .eql ne4_33 (.li 0)) ne4_4 (.tf (.ic .eql ne4_33 (.li 1)) ne4_6 (.tf (.ic .eql ne4_33 (.li 2)) ne4_14 ne4_7)))),
  (2103053763, 132, (.tf ne4_26 (.fb .sub (.vf 130) (.vf 131)) (.fb .mul (.vf 130) (.vf 131)))),
  (1146205028, 133, (.tf ne4_27 (.fb .add (.vf 130) (.vf 131)) (.vf 132))),
  (1142771106, 134, (.tf ne4_28 (.fb .quo (.vf 130) (.vf 131)) (.vf 133))),
  (1511552880, 135, (.tf ne4_20 ne4_29 (.tf (.vb 7) (.vf 134) (.vf 133)))),
  (2597057509, 136, (.tf ne4_35 ne4_14 (.tf ne4_36 ne4_7 (.vf 135)))),
  (305094967, 137, (.tf ne4_38 ne4_14 (.tf ne4_39 ne4_7 (.vf 135)))),
  (2308099716, 138, (.tf (.ic .eql ne4_40 (.li 0)) ne4_14 (.tf (.ic .eql ne4_40 (.li 1)) ne4_7 (.vf 135)))),
  (2867591080, 139, (.fb .mul ne4_10 (.vf 136))),
  (2867591081, 140, (.fb .mul ne4_10 (.vf 137))),
  (2867591082, 141, (.fb .mul ne4_10 (.vf 138))),
  (3487480674, 142, (.tf (.ic .eql ne4_43 (.li 0)) ne4_4 (.tf (.ic .eql ne4_43 (.li 1)) ne4_7 (.vf 117)))),
  (2575313056, 143, (.tf (.ic .eql ne4_45 (.li 0)) ne4_4 (.tf (.ic .eql ne4_45 (.li 1)) ne4_7 (.vf 117)))),
  (2710283962, 144, (.tf ne4_47 (.fb .sub (.vf 142) (.vf 143)) (.fb .mul (.vf 142) (.vf 143)))),
  (1741435191, 145, (.tf ne4_48 (.fb .add (.vf 142) (.vf 143)) (.vf 144))),
  (1738001269, 146, (.tf ne4_49 (.fb .quo (.vf 142) (.vf 143)) (.vf 145))),
  (832223757, 147, (.tf ne4_41 ne4_50 (.tf (.vb 7) (.vf 146) (.vf 145)))),
  (2678163647, 148, (.tf ne4_12 ne4_7 (.tf ne4_13 (.vf 117) (.vf 147)))),
  (2867591092, 149, (.fb .mul ne4_10 (.vf 148))),
  (4283897443, 150, (.tf ne4_41 ne4_50 (.tf ne4_20 ne4_29 ne4_7))),
  (1732029022, 151, (.tf (.ic .eql ne4_51 (.li 0)) ne4_4 (.tf (.ic .eql ne4_51 (.li 1)) ne4_6 (.tf (.ic .eql ne4_51 (.li 2)) ne4_7 (.vf 125))))),
  (363777595, 152, (.tf (.ic .eql ne4_52 (.li 0)) ne4_4 (.tf (.ic .eql ne4_52 (.li 1)) ne4_6 (.tf (.ic .eql ne4_52 (.li 2)) ne4_7 (.vf 125))))),
  (530842170, 153, (.tf ne4_47 (.fb .sub (.vf 151) (.vf 152)) (.fb .mul (.vf 151) (.vf 152)))),
  (3847960663, 154, (.tf ne4_48 (.fb .add (.vf 151) (.vf 152)) (.vf 153))),
  (3844526741, 155, (.tf ne4_49 (.fb .quo (.vf 151) (.vf 152)) (.vf 154))),
  (841223793, 156, (.tf ne4_41 ne4_50 (.tf (.vb 7) (.vf 155) (.vf 154)))),
  (3091473759, 157, (.tf ne4_35 ne4_7 (.tf ne4_36 (.vf 125) (.vf 156)))),
  (799511217, 158, (.tf ne4_38 ne4_7 (.tf ne4_39 (.vf 125) (.vf 156)))),
  (2867591101, 159, (.fb .mul ne4_10 (.vf 157))),
  (2867591102, 160, (.fb .mul ne4_10 (.vf 158))),
  (1544879773, 161, (.tf (.ic .eql ne4_53 (.li 0)) ne4_4 (.tf (.ic .eql ne4_53 (.li 1)) ne4_6 (.tf (.ic .eql ne4_53 (.li 2)) ne4_14 (.tf (.ic .eql ne4_53 (.li 3)) ne4_7 (.vf 135)))))),
  (4015511828, 162, (.tf (.ic .eql ne4_54 (.li 0)) ne4_4 (.tf (.ic .eql ne4_54 (.li 1)) ne4_6 (.tf (.ic .eql ne4_54 (.li 2)) ne4_14 (.tf (.ic .eql ne4_54 (.li 3)) ne4_7 (.vf 135)))))),
  (1926988882, 163, (.tf ne4_47 (.fb .sub (.vf 161) (.vf 162)) (.fb .mul (.vf 161) (.vf 162)))),
  (939140054, 164, (.tf ne4_48 (.fb .add (.vf 161) (.vf 162)) (.vf 163))),
  (935706132, 165, (.tf ne4_49 (.fb .quo (.vf 161) (.vf 162)) (.vf 164))),
  (851223833, 166, (.tf ne4_41 ne4_50 (.tf (.vb 7) (.vf 165) (.vf 164)))),
  (3506783878, 167, (.tf ne4_56 ne4_7 (.tf ne4_57 (.vf 135) (.vf 166)))),
  (1214821336, 168, (.tf ne4_59 ne4_7 (.tf ne4_60 (.vf 135) (.vf 166)))),
  (3217826085, 169, (.tf (.ic .eql ne4_61 (.li 0)) ne4_7 (.tf (.ic .eql ne4_61 (.li 1)) (.vf 135) (.vf 166)))),
  (2867591111, 170, (.fb .mul ne4_10 (.vf 167))),
  (2867591112, 171, (.fb .mul ne4_10 (.vf 168))),
  (2867591113, 172, (.fb .mul ne4_10 (.vf 169))),
  (1512417298, 173, (.tf (.ic .eql ne4_64 (.li 0)) ne4_4 (.tf (.ic .eql ne4_64 (.li 1)) ne4_7 (.tf (.ic .eql ne4_64 (.li 2)) (.vf 117) (.vf 147))))),
  (144165871, 174, (.tf (.ic .eql ne4_66 (.li 0)) ne4_4 (.tf (.ic .eql ne4_66 (.li 1)) ne4_7 (.tf (.ic .eql ne4_66 (.li 2)) (.vf 117) (.vf 147))))),
  (2534219081, 175, (.tf ne4_68 (.fb .sub (.vf 173) (.vf 174)) (.fb .mul (.vf 173) (.vf 174)))),
  (1534370217, 176, (.tf ne4_69 (.fb .add (.vf 173) (.vf 174)) (.vf 175))),
  (1530936295, 177, (.tf ne4_70 (.fb .quo (.vf 173) (.vf 174)) (.vf 176))),
  (171894710, 178, (.tf ne4_62 ne4_71 (.tf (.vb 7) (.vf 177) (.vf 176)))),
  (1723620795, 179, (.tf ne4_35 (.vf 117) (.tf ne4_36 (.vf 147) (.vf 178)))),
  (2867591123, 180, (.fb .mul ne4_10 (.vf 179))),
  (1684916366, 181, (.tf ne4_62 ne4_71 (.vf 150))),
  (3412309289, 182, (.tf (.ic .eql ne4_72 (.li 0)) ne4_4 (.tf (.ic .eql ne4_72 (.li 1)) ne4_6 (.tf (.ic .eql ne4_72 (.li 2)) ne4_7 (.tf (.ic .eql ne4_72 (.li 3)) (.vf 125) (.vf 156)))))),
  (1587974053, 183, (.tf (.ic .eql ne4_73 (.li 0)) ne4_4 (.tf (.ic .eql ne4_73 (.li 1)) ne4_6 (.tf (.ic .eql ne4_73 (.li 2)) ne4_7 (.tf (.ic .eql ne4_73 (.li 3)) (.vf 125) (.vf 156)))))),
  (354777289, 184, (.tf ne4_68 (.fb .sub (.vf 182) (.vf 183)) (.fb .mul (.vf 182) (.vf 183)))),
  (3640895689, 185, (.tf ne4_69 (.fb .add (.vf 182) (.vf 183)) (.vf 184))),
  (3637461767, 186, (.tf ne4_70 (.fb .quo (.vf 182) (.vf 183)) (.vf 185))),
  (180894746, 187, (.tf ne4_62 ne4_71 (.tf (.vb 7) (.vf 186) (.vf 185)))),
  (2145930934, 188, (.tf ne4_56 (.vf 125) (.tf ne4_57 (.vf 156) (.vf 187)))),
  (4148935683, 189, (.tf ne4_59 (.vf 125) (.tf ne4_60 (.vf 156) (.vf 187)))),
  (2867591132, 190, (.fb .mul ne4_10 (.vf 188))),
  (2867591133, 191, (.fb .mul ne4_10 (.vf 189))),
  (2587536397, 192, (.tf (.ic .eql ne4_74 (.li 0)) ne4_4 (.tf (.ic .eql ne4_74 (.li 1)) ne4_6 (.tf (.ic .eql ne4_74 (.li 2)) ne4_14 (.tf (.ic .eql ne4_74 (.li 3)) ne4_7 (.tf (.ic .eql ne4_74 (.li 4)) (.vf 135) (.vf 166))))))),
  (307117352, 193, (.tf (.ic .eql ne4_75 (.li 0)) ne4_4 (.tf (.ic .eql ne4_75 (.li 1)) ne4_6 (.tf (.ic .eql ne4_75 (.li 2)) ne4_14 (.tf (.ic .eql ne4_75 (.li 3)) ne4_7 (.tf (.ic .eql ne4_75 (.li 4)) (.vf 135) (.vf 166))))))),
  (1750924001, 194, (.tf ne4_68 (.fb .sub (.vf 192) (.vf 193)) (.fb .mul (.vf 192) (.vf 193)))),
  (732075080, 195, (.tf ne4_69 (.fb .add (.vf 192) (.vf 193)) (.vf 194))),
  (728641158, 196, (.tf ne4_70 (.fb .quo (.vf 192) (.vf 193)) (.vf 195))),
  (190894786, 197, (.tf ne4_62 ne4_71 (.tf (.vb 7) (.vf 196) (.vf 195)))),
  (2571241083, 198, (.tf ne4_77 (.vf 135) (.tf ne4_78 (.vf 166) (.vf 197)))),
  (279278541, 199, (.tf ne4_80 (.vf 135) (.tf ne4_81 (.vf 166) (.vf 197)))),
  (2282283290, 200, (.tf (.ic .eql ne4_82 (.li 0)) (.vf 135) (.tf (.ic .eql ne4_82 (.li 1)) (.vf 166) (.vf 197)))),
  (2867591142, 201, (.fb .mul ne4_10 (.vf 198))),
  (2867591143, 202, (.fb .mul ne4_10 (.vf 199))),
  (2867591144, 203, (.fb .mul ne4_10 (.vf 200))),
  (413746878, 204, (.fb .add (.fb .add ne4_83 ne4_87) (.fb .add ne4_87 (.fb .add ne4_86 (.lf 13854318985831364315))))),
  (553932386, 205, (.fb .add (.fb .mul (.fb .add (.fb .mul (.fb .add (.fb .mul (.fb .add ne4_89 ne4_85) (.vf 4)) ne4_84) (.vf 4)) ne4_83) (.vf 4)) ne4_90)),
  (1410467302, 206, (.tf (.ic .eql ne4_93 (.li 0)) ne4_4 (.tf (.ic .eql ne4_93 (.li 1)) ne4_7 (.tf (.ic .eql ne4_93 (.li 2)) (.vf 117) (.tf (.ic .eql ne4_93 (.li 3)) (.vf 147) (.vf 178)))))),
  (3881099357, 207, (.tf (.ic .eql ne4_95 (.li 0)) ne4_4 (.tf (.ic .eql ne4_95 (.li 1)) ne4_7 (.tf (.ic .eql ne4_95 (.li 2)) (.vf 117) (.tf (.ic .eql ne4_95 (.li 3)) (.vf 147) (.vf 178)))))),
  (919396626, 208, (.tf ne4_97 (.fb .sub (.vf 206) (.vf 207)) (.fb .mul (.vf 206) (.vf 207)))),
  (4181514954, 209, (.tf ne4_98 (.fb .add (.vf 206) (.vf 207)) (.vf 208))),
  (4178081032, 210, (.tf ne4_99 (.fb .quo (.vf 206) (.vf 207)) (.vf 209))),
  (3808532962, 211, (.tf ne4_91 ne4_100 (.tf (.vb 7) (.vf 210) (.vf 209)))),
  (2189931090, 212, (.tf ne4_56 (.vf 147) (.tf ne4_57 (.vf 178) (.vf 211)))),
  (2867591156, 213, (.fb .mul ne4_10 (.vf 212))),
  (993587226, 214, (.tf ne4_91 ne4_100 (.vf 181))),
  (2671735647, 215, (.tf (.ic .eql ne4_101 (.li 0)) ne4_4 (.tf (.ic .eql ne4_101 (.li 1)) ne4_6 (.tf (.ic .eql ne4_101 (.li 2)) ne4_7 (.tf (.ic .eql ne4_101 (.li 3)) (.vf 125) (.tf (.ic .eql ne4_101 (.li 4)) (.vf 156) (.vf 187))))))),
  (391316602, 216, (.tf (.ic .eql ne4_102 (.li 0)) ne4_4 (.tf (.ic .eql ne4_102 (.li 1)) ne4_6 (.tf (.ic .eql ne4_102 (.li 2)) ne4_7 (.tf (.ic .eql ne4_102 (.li 3)) (.vf 125) (.tf (.ic .eql ne4_102 (.li 4)) (.vf 156) (.vf 187))))))),
  (3034922125, 217, (.tf ne4_97 (.fb .sub (.vf 215) (.vf 216)) (.fb .mul (.vf 215) (.vf 216)))),
  (1993073135, 218, (.tf ne4_98 (.fb .add (.vf 215) (.vf 216)) (.vf 217))),
  (1989639213, 219, (.tf ne4_99 (.fb .quo (.vf 215) (.vf 216)) (.vf 218))),
  (3817532998, 220, (.tf ne4_91 ne4_100 (.tf (.vb 7) (.vf 219) (.vf 218)))),
  (2613241232, 221, (.tf ne4_77 (.vf 156) (.tf ne4_78 (.vf 187) (.vf 220)))),
  (321278690, 222, (.tf ne4_80 (.vf 156) (.tf ne4_81 (.vf 187) (.vf 220)))),
  (2867591165, 223, (.fb .mul ne4_10 (.vf 221))),
  (2867591166, 224, (.fb .mul ne4_10 (.vf 222))),
  (1209339112, 225, (.tf (.ic .eql ne4_103 (.li 0)) ne4_4 (.tf (.ic .eql ne4_103 (.li 1)) ne4_6 (.tf (.ic .eql ne4_103 (.li 2)) ne4_14 (.tf (.ic .eql ne4_103 (.li 3)) ne4_7 (.tf (.ic .eql ne4_103 (.li 4)) (.vf 135) (.tf (.ic .eql ne4_103 (.li 5)) (.vf 166) (.vf 197)))))))),
  (2767803549, 226, (.tf (.ic .eql ne4_104 (.li 0)) ne4_4 (.tf (.ic .eql ne4_104 (.li 1)) ne4_6 (.tf (.ic .eql ne4_104 (.li 2)) ne4_14 (.tf (.ic .eql ne4_104 (.li 3)) ne4_7 (.tf (.ic .eql ne4_104 (.li 4)) (.vf 135) (.tf (.ic .eql ne4_104 (.li 5)) (.vf 166) (.vf 197)))))))),
  (136101546, 227, (.tf ne4_97 (.fb .sub (.vf 225) (.vf 226)) (.fb .mul (.vf 225) (.vf 226)))),
  (3379219817, 228, (.tf ne4_98 (.fb .add (.vf 225) (.vf 226)) (.vf 227))),
  (3375785895, 229, (.tf ne4_99 (.fb .quo (.vf 225) (.vf 226)) (.vf 228))),
  (3827533038, 230, (.tf ne4_91 ne4_100 (.tf (.vb 7) (.vf 229) (.vf 228)))),
  (3038551381, 231, (.tf ne4_106 (.vf 166) (.tf ne4_107 (.vf 197) (.vf 230)))),
  (746588839, 232, (.tf ne4_109 (.vf 166) (.tf ne4_110 (.vf 197) (.vf 230)))),
  (2749593588, 233, (.tf (.ic .eql ne4_111 (.li 0)) (.vf 166) (.tf (.ic .eql ne4_111 (.li 1)) (.vf 197) (.vf 230)))),
  (2867591175, 234, (.fb .mul ne4_10 (.vf 231))),
  (2867591176, 235, (.fb .mul ne4_10 (.vf 232))),
  (2867591177, 236, (.fb .mul ne4_10 (.vf 233))),
  (2439239657, 237, (.fb .add ne4_90 ne4_116)),
  (2045160614, 238, (.fb .add ne4_115 ne4_118)),
  (2161133799, 239, (.fb .add ne4_116 (.vf 238))),
  (3002841853, 240, (.fb .add (.vf 238) ne4_120)),
  (827625948, 241, (.fb .add ne4_120 (.fb .add ne4_119 (.lf 13847201689991680585)))),
  (351697517, 242, (.fb .add (.fb .mul (.fb .add (.fb .mul (.fb .add (.fb .mul (.fb .add (.fb .mul (.fb .add ne4_88 ne4_112) (.vf 4)) ne4_85) (.vf 4)) ne4_84) (.vf 4)) ne4_83) (.vf 4)) ne4_90)),
  (3182630690, 243, (.tf (.ic .eql ne4_123 (.li 0)) ne4_4 (.tf (.ic .eql ne4_123 (.li 1)) ne4_7 (.tf (.ic .eql ne4_123 (.li 2)) (.vf 117) (.tf (.ic .eql ne4_123 (.li 3)) (.vf 147) (.tf (.ic .eql ne4_123 (.li 4)) (.vf 178) (.vf 211))))))),
  (902211645, 244, (.tf (.ic .eql ne4_125 (.li 0)) ne4_4 (.tf (.ic .eql ne4_125 (.li 1)) ne4_7 (.tf (.ic .eql ne4_125 (.li 2)) (.vf 117) (.tf (.ic .eql ne4_125 (.li 3)) (.vf 147) (.tf (.ic .eql ne4_125 (.li 4)) (.vf 178) (.vf 211))))))),
  (722026314, 245, (.tf ne4_127 (.fb .sub (.vf 243) (.vf 244)) (.fb .mul (.vf 243) (.vf 244)))),
  (3947144531, 246, (.tf ne4_128 (.fb .add (.vf 243) (.vf 244)) (.vf 245))),
  (3943710609, 247, (.tf ne4_129 (.fb .quo (.vf 243) (.vf 244)) (.vf 246))),
  (3154203939, 248, (.tf ne4_121 ne4_130 (.tf (.vb 7) (.vf 247) (.vf 246)))),
  (2659241398, 249, (.tf ne4_77 (.vf 178) (.tf ne4_78 (.vf 211) (.vf 248)))),
  (2867591193, 250, (.fb .mul ne4_10 (.vf 249))),
  (302258088, 251, (.tf ne4_121 ne4_130 (.vf 214))),
  (3805275389, 252, (.tf (.ic .eql ne4_131 (.li 0)) ne4_4 (.tf (.ic .eql ne4_131 (.li 1)) ne4_6 (.tf (.ic .eql ne4_131 (.li 2)) ne4_7 (.tf (.ic .eql ne4_131 (.li 3)) (.vf 125) (.tf (.ic .eql ne4_131 (.li 4)) (.vf 156) (.tf (.ic .eql ne4_131 (.li 5)) (.vf 187) (.vf 220)))))))),
  (1068772535, 253, (.tf (.ic .eql ne4_132 (.li 0)) ne4_4 (.tf (.ic .eql ne4_132 (.li 1)) ne4_6 (.tf (.ic .eql ne4_132 (.li 2)) ne4_7 (.tf (.ic .eql ne4_132 (.li 3)) (.vf 125) (.tf (.ic .eql ne4_132 (.li 4)) (.vf 156) (.tf (.ic .eql ne4_132 (.li 5)) (.vf 187) (.vf 220)))))))),
  (2837551813, 254, (.tf ne4_127 (.fb .sub (.vf 252) (.vf 253)) (.fb .mul (.vf 252) (.vf 253)))),
  (1758702712, 255, (.tf ne4_128 (.fb .add (.vf 252) (.vf 253)) (.vf 254))),
  (1755268790, 256, (.tf ne4_129 (.fb .quo (.vf 252) (.vf 253)) (.vf 255))),
  (3163203975, 257, (.tf ne4_121 ne4_130 (.tf (.vb 7) (.vf 256) (.vf 255)))),
  (3082551540, 258, (.tf ne4_106 (.vf 187) (.tf ne4_107 (.vf 220) (.vf 257)))),
  (790588998, 259, (.tf ne4_109 (.vf 187) (.tf ne4_110 (.vf 220) (.vf 257)))),
  (2867591202, 260, (.fb .mul ne4_10 (.vf 258))),
  (2867591203, 261, (.fb .mul ne4_10 (.vf 259))),
  (1705255211, 262, (.tf (.ic .eql ne4_133 (.li 0)) ne4_4 (.tf (.ic .eql ne4_133 (.li 1)) ne4_6 (.tf (.ic .eql ne4_133 (.li 2)) ne4_14 (.tf (.ic .eql ne4_133 (.li 3)) ne4_7 (.tf (.ic .eql ne4_133 (.li 4)) (.vf 135) (.tf (.ic .eql ne4_133 (.li 5)) (.vf 166) (.tf (.ic .eql ne4_133 (.li 6)) (.vf 197) (.vf 230))))))))),
  (2807635839, 263, (.tf (.ic .eql ne4_134 (.li 0)) ne4_4 (.tf (.ic .eql ne4_134 (.li 1)) ne4_6 (.tf (.ic .eql ne4_134 (.li 2)) ne4_14 (.tf (.ic .eql ne4_134 (.li 3)) ne4_7 (.tf (.ic .eql ne4_134 (.li 4)) (.vf 135) (.tf (.ic .eql ne4_134 (.li 5)) (.vf 166) (.tf (.ic .eql ne4_134 (.li 6)) (.vf 197) (.vf 230))))))))),
  (4233698525, 264, (.tf ne4_127 (.fb .sub (.vf 262) (.vf 263)) (.fb .mul (.vf 262) (.vf 263)))),
  (3144849394, 265, (.tf ne4_128 (.fb .add (.vf 262) (.vf 263)) (.vf 264))),
  (3141415472, 266, (.tf ne4_129 (.fb .quo (.vf 262) (.vf 263)) (.vf 265))),
  (3173204015, 267, (.tf ne4_121 ne4_130 (.tf (.vb 7) (.vf 266) (.vf 265)))),
  (3507861689, 268, (.tf ne4_136 (.vf 197) (.tf ne4_137 (.vf 230) (.vf 267)))),
  (1215899147, 269, (.tf ne4_139 (.vf 197) (.tf ne4_140 (.vf 230) (.vf 267)))),
  (3218903896, 270, (.tf (.ic .eql ne4_141 (.li 0)) (.vf 197) (.tf (.ic .eql ne4_141 (.li 1)) (.vf 230) (.vf 267)))),
  (2867591212, 271, (.fb .mul ne4_10 (.vf 268))),
  (2867591213, 272, (.fb .mul ne4_10 (.vf 269))),
  (2867591214, 273, (.fb .mul ne4_10 (.vf 270))),
  (2949643707, 274, (.fb .add ne4_90 ne4_146)),
  (1346627039, 275, (.fb .add ne4_144 ne4_147)),
  (1985790782, 276, (.fb .add ne4_145 (.vf 275))),
  (2419418129, 277, (.fb .add ne4_146 (.vf 276))),
  (891979934, 278, (.fb .add (.vf 275) ne4_148)),
  (504577147, 279, (.fb .add (.vf 278) ne4_149)),
  (2526848990, 280, (.fb .add ne4_149 ne4_142)),
  (2110312167, 281, (.fb .add (.fb .mul (.fb .add (.fb .mul (.fb .add (.fb .mul (.fb .add (.fb .mul ne4_142 (.vf 4)) ne4_112) (.vf 4)) ne4_85) (.vf 4)) ne4_84) (.vf 4)) ne4_83)),
  (2709449791, 282, (.fb .add (.fb .mul (.vf 281) (.vf 4)) ne4_90)),
  (2535940179, 283, (.tf (.ic .eql ne4_152 (.li 0)) ne4_4 (.tf (.ic .eql ne4_152 (.li 1)) ne4_7 (.tf (.ic .eql ne4_152 (.li 2)) (.vf 117) (.tf (.ic .eql ne4_152 (.li 3)) (.vf 147) (.tf (.ic .eql ne4_152 (.li 4)) (.vf 178) (.tf (.ic .eql ne4_152 (.li 5)) (.vf 211) (.vf 248)))))))),
  (4094404616, 284, (.tf (.ic .eql ne4_154 (.li 0)) ne4_4 (.tf (.ic .eql ne4_154 (.li 1)) ne4_7 (.tf (.ic .eql ne4_154 (.li 2)) (.vf 117) (.tf (.ic .eql ne4_154 (.li 3)) (.vf 147) (.tf (.ic .eql ne4_154 (.li 4)) (.vf 178) (.tf (.ic .eql ne4_154 (.li 5)) (.vf 211) (.vf 248)))))))),
  (2661486932, 285, (.tf ne4_156 (.fb .sub (.vf 283) (.vf 284)) (.fb .mul (.vf 283) (.vf 284)))),
  (1551637738, 286, (.tf ne4_157 (.fb .add (.vf 283) (.vf 284)) (.vf 285))),
  (1548203816, 287, (.tf ne4_158 (.fb .quo (.vf 283) (.vf 284)) (.vf 286))),
  (2502874928, 288, (.tf ne4_150 ne4_159 (.tf (.vb 7) (.vf 287) (.vf 286)))),
  (3134551727, 289, (.tf ne4_106 (.vf 211) (.tf ne4_107 (.vf 248) (.vf 288)))),
  (2867591233, 290, (.fb .mul ne4_10 (.vf 289))),
  (3905896245, 291, (.tf ne4_150 ne4_159 (.vf 251))),
  (2519961232, 292, (.tf (.ic .eql ne4_160 (.li 0)) ne4_4 (.tf (.ic .eql ne4_160 (.li 1)) ne4_6 (.tf (.ic .eql ne4_160 (.li 2)) ne4_7 (.tf (.ic .eql ne4_160 (.li 3)) (.vf 125) (.tf (.ic .eql ne4_160 (.li 4)) (.vf 156) (.tf (.ic .eql ne4_160 (.li 5)) (.vf 187) (.tf (.ic .eql ne4_160 (.li 6)) (.vf 220) (.vf 257))))))))),
  (3622341860, 293, (.tf (.ic .eql ne4_161 (.li 0)) ne4_4 (.tf (.ic .eql ne4_161 (.li 1)) ne4_6 (.tf (.ic .eql ne4_161 (.li 2)) ne4_7 (.tf (.ic .eql ne4_161 (.li 3)) (.vf 125) (.tf (.ic .eql ne4_161 (.li 4)) (.vf 156) (.tf (.ic .eql ne4_161 (.li 5)) (.vf 187) (.tf (.ic .eql ne4_161 (.li 6)) (.vf 220) (.vf 257))))))))),
  (482045140, 294, (.tf ne4_156 (.fb .sub (.vf 292) (.vf 293)) (.fb .mul (.vf 292) (.vf 293)))),
  (3658163210, 295, (.tf ne4_157 (.fb .add (.vf 292) (.vf 293)) (.vf 294))),
  (3654729288, 296, (.tf ne4_158 (.fb .quo (.vf 292) (.vf 293)) (.vf 295))),
  (2511874964, 297, (.tf ne4_150 ne4_159 (.tf (.vb 7) (.vf 296) (.vf 295)))),
  (3557861869, 298, (.tf ne4_136 (.vf 220) (.tf ne4_137 (.vf 257) (.vf 297)))),
  (1265899327, 299, (.tf ne4_139 (.vf 220) (.tf ne4_140 (.vf 257) (.vf 297)))),
  (2867591242, 300, (.fb .mul ne4_10 (.vf 298))),
  (2867591243, 301, (.fb .mul ne4_10 (.vf 299))),
  (4077284702, 302, (.tf (.ic .eql ne4_162 (.li 0)) ne4_4 (.tf (.ic .eql ne4_162 (.li 1)) ne4_6 (.tf (.ic .eql ne4_162 (.li 2)) ne4_14 (.tf (.ic .eql ne4_162 (.li 3)) ne4_7 (.tf (.ic .eql ne4_162 (.li 4)) (.vf 135) (.tf (.ic .eql ne4_162 (.li 5)) (.vf 166) (.tf (.ic .eql ne4_162 (.li 6)) (.vf 197) (.tf (.ic .eql ne4_162 (.li 7)) (.vf 230) (.vf 267)))))))))),
  (428614230, 303, (.tf (.ic .eql ne4_163 (.li 0)) ne4_4 (.tf (.ic .eql ne4_163 (.li 1)) ne4_6 (.tf (.ic .eql ne4_163 (.li 2)) ne4_14 (.tf (.ic .eql ne4_163 (.li 3)) ne4_7 (.tf (.ic .eql ne4_163 (.li 4)) (.vf 135) (.tf (.ic .eql ne4_163 (.li 5)) (.vf 166) (.tf (.ic .eql ne4_163 (.li 6)) (.vf 197) (.tf (.ic .eql ne4_163 (.li 7)) (.vf 230) (.vf 267)))))))))),
  (1878191852, 304, (.tf ne4_156 (.fb .sub (.vf 302) (.vf 303)) (.fb .mul (.vf 302) (.vf 303)))),
  (749342601, 305, (.tf ne4_157 (.fb .add (.vf 302) (.vf 303)) (.vf 304))),
  (745908679, 306, (.tf ne4_158 (.fb .quo (.vf 302) (.vf 303)) (.vf 305))),
  (2521875004, 307, (.tf ne4_150 ne4_159 (.tf (.vb 7) (.vf 306) (.vf 305)))),
  (3983172018, 308, (.tf ne4_165 (.vf 230) (.tf ne4_166 (.vf 267) (.vf 307)))),
  (1691209476, 309, (.tf ne4_168 (.vf 230) (.tf ne4_169 (.vf 267) (.vf 307)))),
  (3694214225, 310, (.tf (.ic .eql ne4_170 (.li 0)) (.vf 230) (.tf (.ic .eql ne4_170 (.li 1)) (.vf 267) (.vf 307)))),
  (2867591252, 311, (.fb .mul ne4_10 (.vf 308))),
  (2867591253, 312, (.fb .mul ne4_10 (.vf 309))),
  (2867591254, 313, (.fb .mul ne4_10 (.vf 310))),
  (3769363071, 314, (.tf (.ic .eql ne4_173 (.li 0)) ne4_4 (.tf (.ic .eql ne4_173 (.li 1)) ne4_7 (.tf (.ic .eql ne4_173 (.li 2)) (.vf 117) (.tf (.ic .eql ne4_173 (.li 3)) (.vf 147) (.tf (.ic .eql ne4_173 (.li 4)) (.vf 178) (.tf (.ic .eql ne4_173 (.li 5)) (.vf 211) (.tf (.ic .eql ne4_173 (.li 6)) (.vf 248) (.vf 288))))))))),
  (576776408, 315, (.tf (.ic .eql ne4_175 (.li 0)) ne4_4 (.tf (.ic .eql ne4_175 (.li 1)) ne4_7 (.tf (.ic .eql ne4_175 (.li 2)) (.vf 117) (.tf (.ic .eql ne4_175 (.li 3)) (.vf 147) (.tf (.ic .eql ne4_175 (.li 4)) (.vf 178) (.tf (.ic .eql ne4_175 (.li 5)) (.vf 211) (.tf (.ic .eql ne4_175 (.li 6)) (.vf 248) (.vf 288))))))))),
  (2485422051, 316, (.tf ne4_177 (.fb .sub (.vf 314) (.vf 315)) (.fb .mul (.vf 314) (.vf 315)))),
  (1344572764, 317, (.tf ne4_178 (.fb .add (.vf 314) (.vf 315)) (.vf 316))),
  (1341138842, 318, (.tf ne4_179 (.fb .quo (.vf 314) (.vf 315)) (.vf 317))),
  (1842545881, 319, (.tf ne4_171 ne4_180 (.tf (.vb 7) (.vf 318) (.vf 317)))),
  (3616862068, 320, (.tf ne4_136 (.vf 248) (.tf ne4_137 (.vf 288) (.vf 319)))),
  (2867591264, 321, (.fb .mul ne4_10 (.vf 320))),
  (3214567114, 322, (.tf ne4_171 ne4_180 (.vf 291))),
  (981812563, 323, (.fb .add (.fb .add ne4_84 ne4_183) (.fb .add ne4_183 (.fb .add ne4_182 (.lf 13854318985831364315))))),
  (649096554, 324, (.fb .add (.fb .mul (.fb .add (.fb .mul (.fb .add (.fb .mul (.fb .add ne4_89 ne4_181) (.vf 4)) ne4_112) (.vf 4)) ne4_84) (.vf 4)) ne4_90)),
  (3114760478, 325, (.tf (.ic .eql ne4_184 (.li 0)) ne4_4 (.tf (.ic .eql ne4_184 (.li 1)) ne4_6 (.tf (.ic .eql ne4_184 (.li 2)) ne4_7 (.tf (.ic .eql ne4_184 (.li 3)) (.vf 125) (.tf (.ic .eql ne4_184 (.li 4)) (.vf 156) (.tf (.ic .eql ne4_184 (.li 5)) (.vf 187) (.tf (.ic .eql ne4_184 (.li 6)) (.vf 220) (.tf (.ic .eql ne4_184 (.li 7)) (.vf 257) (.vf 297)))))))))),
  (3761057297, 326, (.tf (.ic .eql ne4_185 (.li 0)) ne4_4 (.tf (.ic .eql ne4_185 (.li 1)) ne4_6 (.tf (.ic .eql ne4_185 (.li 2)) ne4_7 (.tf (.ic .eql ne4_185 (.li 3)) (.vf 125) (.tf (.ic .eql ne4_185 (.li 4)) (.vf 156) (.tf (.ic .eql ne4_185 (.li 5)) (.vf 187) (.tf (.ic .eql ne4_185 (.li 6)) (.vf 220) (.tf (.ic .eql ne4_185 (.li 7)) (.vf 257) (.vf 297)))))))))),
  (3162189976, 327, (.tf ne4_177 (.fb .sub (.vf 325) (.vf 326)) (.fb .mul (.vf 325) (.vf 326)))),
  (2010340656, 328, (.tf ne4_178 (.fb .add (.vf 325) (.vf 326)) (.vf 327))),
  (2006906734, 329, (.tf ne4_179 (.fb .quo (.vf 325) (.vf 326)) (.vf 328))),
  (1853545925, 330, (.tf ne4_171 ne4_180 (.tf (.vb 7) (.vf 329) (.vf 328)))),
  (4040172212, 331, (.tf ne4_165 (.vf 257) (.tf ne4_166 (.vf 297) (.vf 330)))),
  (1748209670, 332, (.tf ne4_168 (.vf 257) (.tf ne4_169 (.vf 297) (.vf 330)))),
  (2867591275, 333, (.fb .mul ne4_10 (.vf 331))),
  (2867591276, 334, (.fb .mul ne4_10 (.vf 332))),
  (4034460305, 335, (.tf (.ic .eql ne4_186 (.li 0)) ne4_4 (.tf (.ic .eql ne4_186 (.li 1)) ne4_6 (.tf (.ic .eql ne4_186 (.li 2)) ne4_14 (.tf (.ic .eql ne4_186 (.li 3)) ne4_7 (.tf (.ic .eql ne4_186 (.li 4)) (.vf 135) (.tf (.ic .eql ne4_186 (.li 5)) (.vf 166) (.tf (.ic .eql ne4_186 (.li 6)) (.vf 197) (.tf (.ic .eql ne4_186 (.li 7)) (.vf 230) (.tf (.ic .eql ne4_186 (.li 8)) (.vf 267) (.vf 307))))))))))),
  (4224673315, 336, (.tf (.ic .eql ne4_187 (.li 0)) ne4_4 (.tf (.ic .eql ne4_187 (.li 1)) ne4_6 (.tf (.ic .eql ne4_187 (.li 2)) ne4_14 (.tf (.ic .eql ne4_187 (.li 3)) ne4_7 (.tf (.ic .eql ne4_187 (.li 4)) (.vf 135) (.tf (.ic .eql ne4_187 (.li 5)) (.vf 166) (.tf (.ic .eql ne4_187 (.li 6)) (.vf 197) (.tf (.ic .eql ne4_187 (.li 7)) (.vf 230) (.tf (.ic .eql ne4_187 (.li 8)) (.vf 267) (.vf 307))))))))))),
  (263369397, 337, (.tf ne4_177 (.fb .sub (.vf 335) (.vf 336)) (.fb .mul (.vf 335) (.vf 336)))),
  (3396487338, 338, (.tf ne4_178 (.fb .add (.vf 335) (.vf 336)) (.vf 337))),
  (3393053416, 339, (.tf ne4_179 (.fb .quo (.vf 335) (.vf 336)) (.vf 338))),
  (1863545965, 340, (.tf ne4_171 ne4_180 (.tf (.vb 7) (.vf 339) (.vf 338)))),
  (170515070, 341, (.tf ne4_189 (.vf 267) (.tf ne4_190 (.vf 307) (.vf 340)))),
  (2173519819, 342, (.tf ne4_192 (.vf 267) (.tf ne4_193 (.vf 307) (.vf 340)))),
  (4176524568, 343, (.tf (.ic .eql ne4_194 (.li 0)) (.vf 267) (.tf (.ic .eql ne4_194 (.li 1)) (.vf 307) (.vf 340)))),
  (2867591285, 344, (.fb .mul ne4_10 (.vf 341))),
  (2867591286, 345, (.fb .mul ne4_10 (.vf 342))),
  (2867591287, 346, (.fb .mul ne4_10 (.vf 343))),
  (2590932072, 347, (.tf (.ic .eql ne4_197 (.li 0)) ne4_4 (.tf (.ic .eql ne4_197 (.li 1)) ne4_7 (.tf (.ic .eql ne4_197 (.li 2)) (.vf 117) (.tf (.ic .eql ne4_197 (.li 3)) (.vf 147) (.tf (.ic .eql ne4_197 (.li 4)) (.vf 178) (.tf (.ic .eql ne4_197 (.li 5)) (.vf 211) (.tf (.ic .eql ne4_197 (.li 6)) (.vf 248) (.tf (.ic .eql ne4_197 (.li 7)) (.vf 288) (.vf 319)))))))))),
  (3237228891, 348, (.tf (.ic .eql ne4_199 (.li 0)) ne4_4 (.tf (.ic .eql ne4_199 (.li 1)) ne4_7 (.tf (.ic .eql ne4_199 (.li 2)) (.vf 117) (.tf (.ic .eql ne4_199 (.li 3)) (.vf 147) (.tf (.ic .eql ne4_199 (.li 4)) (.vf 178) (.tf (.ic .eql ne4_199 (.li 5)) (.vf 211) (.tf (.ic .eql ne4_199 (.li 6)) (.vf 248) (.tf (.ic .eql ne4_199 (.li 7)) (.vf 288) (.vf 319)))))))))),
  (870599596, 349, (.tf ne4_201 (.fb .sub (.vf 347) (.vf 348)) (.fb .mul (.vf 347) (.vf 348)))),
  (3991717501, 350, (.tf ne4_202 (.fb .add (.vf 347) (.vf 348)) (.vf 349))),
  (3988283579, 351, (.tf ne4_203 (.fb .quo (.vf 347) (.vf 348)) (.vf 350))),
  (1184216842, 352, (.tf ne4_195 ne4_204 (.tf (.vb 7) (.vf 351) (.vf 350)))),
  (4093172393, 353, (.tf ne4_165 (.vf 288) (.tf ne4_166 (.vf 319) (.vf 352)))),
  (2867591297, 354, (.fb .mul ne4_10 (.vf 353))),
  (2523237974, 355, (.tf ne4_195 ne4_204 (.vf 322))),
  (4124774189, 356, (.fb .add ne4_84 ne4_210)),
  (505660359, 357, (.fb .add ne4_85 ne4_218)),
  (873647333, 358, (.fb .add ne4_90 (.vf 356))),
  (1523488395, 359, (.fb .add ne4_83 (.vf 357))),
  (1420331489, 360, (.fb .add ne4_209 ne4_219)),
  (3618700091, 361, (.fb .add ne4_217 ne4_220)),
  (162235002, 362, (.fb .add ne4_210 (.vf 360))),
  (2318357907, 363, (.fb .add ne4_218 (.vf 361))),
  (1834369063, 364, (.fb .add ne4_219 ne4_207)),
  (2054770463, 365, (.fb .add ne4_220 ne4_215)),
  (573635546, 366, (.fb .add (.vf 364) ne4_207)),
  (3184237373, 367, (.fb .add (.vf 365) ne4_215)),
  (575635552, 368, (.fb .add (.vf 366) ne4_207)),
  (3186237379, 369, (.fb .add (.vf 367) ne4_215)),
  (2373368404, 370, (.fb .add (.fb .mul (.fb .add (.fb .mul (.fb .add (.fb .mul ne4_207 (.vf 4)) ne4_205) (.vf 4)) ne4_181) (.vf 4)) ne4_112)),
  (2132399155, 371, (.fb .add (.fb .mul (.vf 370) (.vf 4)) ne4_84)),
  (2209867696, 372, (.fb .add (.fb .mul (.vf 371) (.vf 4)) ne4_90)),
  (2295273434, 373, (.fb .add (.fb .mul (.fb .add (.fb .mul (.fb .add (.fb .mul ne4_215 (.vf 4)) ne4_213) (.vf 4)) ne4_211) (.vf 4)) ne4_142)),
  (1716322751, 374, (.fb .add (.fb .mul (.vf 373) (.vf 4)) ne4_85)),
  (1793791292, 375, (.fb .add (.fb .mul (.vf 374) (.vf 4)) ne4_83)),
  (1297705835, 376, (.tf (.ic .eql ne4_221 (.li 0)) ne4_4 (.tf (.ic .eql ne4_221 (.li 1)) ne4_6 (.tf (.ic .eql ne4_221 (.li 2)) ne4_7 (.tf (.ic .eql ne4_221 (.li 3)) (.vf 125) (.tf (.ic .eql ne4_221 (.li 4)) (.vf 156) (.tf (.ic .eql ne4_221 (.li 5)) (.vf 187) (.tf (.ic .eql ne4_221 (.li 6)) (.vf 220) (.tf (.ic .eql ne4_221 (.li 7)) (.vf 257) (.tf (.ic .eql ne4_221 (.li 8)) (.vf 297) (.vf 330))))))))))),
  (1487918845, 377, (.tf (.ic .eql ne4_222 (.li 0)) ne4_4 (.tf (.ic .eql ne4_222 (.li 1)) ne4_6 (.tf (.ic .eql ne4_222 (.li 2)) ne4_7 (.tf (.ic .eql ne4_222 (.li 3)) (.vf 125) (.tf (.ic .eql ne4_222 (.li 4)) (.vf 156) (.tf (.ic .eql ne4_222 (.li 5)) (.vf 187) (.tf (.ic .eql ne4_222 (.li 6)) (.vf 220) (.tf (.ic .eql ne4_222 (.li 7)) (.vf 257) (.tf (.ic .eql ne4_222 (.li 8)) (.vf 297) (.vf 330))))))))))),
  (1483451228, 378, (.tf ne4_201 (.fb .sub (.vf 376) (.vf 377)) (.fb .mul (.vf 376) (.vf 377)))),
  (280601755, 379, (.tf ne4_202 (.fb .add (.vf 376) (.vf 377)) (.vf 378))),
  (277167833, 380, (.tf ne4_203 (.fb .quo (.vf 376) (.vf 377)) (.vf 379))),
  (1213216958, 381, (.tf ne4_195 ne4_204 (.tf (.vb 7) (.vf 380) (.vf 379)))),
  (223515270, 382, (.tf ne4_189 (.vf 297) (.tf ne4_190 (.vf 330) (.vf 381)))),
  (2226520019, 383, (.tf ne4_192 (.vf 297) (.tf ne4_193 (.vf 330) (.vf 381)))),
  (2867591326, 384, (.fb .mul ne4_10 (.vf 382))),
  (2867591327, 385, (.fb .mul ne4_10 (.vf 383))),
  (956508012, 386, (.fb .add ne4_181 ne4_227)),
  (744375096, 387, (.fb .add ne4_211 ne4_232)),
  (2813178228, 388, (.fb .add ne4_205 ne4_237)),
  (2823170546, 389, (.fb .add ne4_85 (.vf 386))),
  (3473011608, 390, (.fb .add ne4_112 (.vf 387))),
  (4122852670, 391, (.fb .add ne4_142 (.vf 388))),
  (873647366, 392, (.fb .add ne4_90 (.vf 389))),
  (1523488428, 393, (.fb .add ne4_83 (.vf 390))),
  (2173329490, 394, (.fb .add ne4_84 (.vf 391))),
  (392255523, 395, (.fb .add ne4_227 ne4_238)),
  (3906539545, 396, (.fb .add ne4_232 ne4_239)),
  (3125856276, 397, (.fb .add ne4_237 ne4_240)),
  (818980690, 398, (.fb .add ne4_238 ne4_225)),
  (1039382090, 399, (.fb .add ne4_239 ne4_230)),
  (1259783490, 400, (.fb .add ne4_240 ne4_235)),
  (470012279, 401, (.fb .add (.vf 398) ne4_225)),
  (3080614106, 402, (.fb .add (.vf 399) ne4_230)),
  (1396248642, 403, (.fb .add (.vf 400) ne4_235)),
  (473012288, 404, (.fb .add (.vf 401) ne4_225)),
  (3083614115, 405, (.fb .add (.vf 402) ne4_230)),
  (1399248651, 406, (.fb .add (.vf 403) ne4_235)),
  (156474096, 407, (.fb .add (.fb .mul (.fb .add (.fb .mul (.fb .add (.fb .mul ne4_225 (.vf 4)) ne4_224) (.vf 4)) ne4_223) (.vf 4)) ne4_181)),
  (2959247501, 408, (.fb .add (.fb .mul (.vf 407) (.vf 4)) ne4_85)),
  (1288656064, 409, (.fb .add (.fb .mul (.vf 408) (.vf 4)) ne4_90)),
  (1394294546, 410, (.fb .add (.fb .mul (.fb .add (.fb .mul (.fb .add (.fb .mul ne4_230 (.vf 4)) ne4_229) (.vf 4)) ne4_228) (.vf 4)) ne4_211)),
  (2543171097, 411, (.fb .add (.fb .mul (.vf 410) (.vf 4)) ne4_112)),
  (872579660, 412, (.fb .add (.fb .mul (.vf 411) (.vf 4)) ne4_83)),
  (1817184038, 413, (.fb .add (.fb .mul (.fb .add (.fb .mul (.fb .add (.fb .mul ne4_235 (.vf 4)) ne4_234) (.vf 4)) ne4_233) (.vf 4)) ne4_205)),
  (2127094693, 414, (.fb .add (.fb .mul (.vf 413) (.vf 4)) ne4_142)),
  (456503256, 415, (.fb .add (.fb .mul (.vf 414) (.vf 4)) ne4_84)),
  (1579782019, 416, (.tf (.ic .eql ne4_241 (.li 0)) ne4_4 (.tf (.ic .eql ne4_241 (.li 1)) ne4_6 (.tf (.ic .eql ne4_241 (.li 2)) ne4_14 (.tf (.ic .eql ne4_241 (.li 3)) ne4_7 (.tf (.ic .eql ne4_241 (.li 4)) (.vf 135) (.tf (.ic .eql ne4_241 (.li 5)) (.vf 166) (.tf (.ic .eql ne4_241 (.li 6)) (.vf 197) (.tf (.ic .eql ne4_241 (.li 7)) (.vf 230) (.tf (.ic .eql ne4_241 (.li 8)) (.vf 267) (.tf (.ic .eql ne4_241 (.li 9)) (.vf 307) (.vf 340)))))))))))),
  (1313911220, 417, (.tf (.ic .eql ne4_242 (.li 0)) ne4_4 (.tf (.ic .eql ne4_242 (.li 1)) ne4_6 (.tf (.ic .eql ne4_242 (.li 2)) ne4_14 (.tf (.ic .eql ne4_242 (.li 3)) ne4_7 (.tf (.ic .eql ne4_242 (.li 4)) (.vf 135) (.tf (.ic .eql ne4_242 (.li 5)) (.vf 166) (.tf (.ic .eql ne4_242 (.li 6)) (.vf 197) (.tf (.ic .eql ne4_242 (.li 7)) (.vf 230) (.tf (.ic .eql ne4_242 (.li 8)) (.vf 267) (.tf (.ic .eql ne4_242 (.li 9)) (.vf 307) (.vf 340)))))))))))),
  (2773070785, 418, (.tf ne4_201 (.fb .sub (.vf 416) (.vf 417)) (.fb .mul (.vf 416) (.vf 417)))),
  (1530221192, 419, (.tf ne4_202 (.fb .add (.vf 416) (.vf 417)) (.vf 418))),
  (1526787270, 420, (.tf ne4_203 (.fb .quo (.vf 416) (.vf 417)) (.vf 419))),
  (1253217118, 421, (.tf ne4_195 ne4_204 (.tf (.vb 7) (.vf 420) (.vf 419)))),
  (648825449, 422, (.tf (.ic .eql ne4_243 (.li 0)) (.vf 307) (.tf (.ic .eql ne4_243 (.li 1)) (.vf 340) (.vf 421)))),
  (2651830198, 423, (.tf (.ic .eql ne4_244 (.li 0)) (.vf 307) (.tf (.ic .eql ne4_244 (.li 1)) (.vf 340) (.vf 421)))),
  (359867656, 424, (.tf (.ic .eql ne4_245 (.li 0)) (.vf 307) (.tf (.ic .eql ne4_245 (.li 1)) (.vf 340) (.vf 421)))),
  (2867591366, 425, (.fb .mul ne4_10 (.vf 422))),
  (2867591367, 426, (.fb .mul ne4_10 (.vf 423))),
  (2867591368, 427, (.fb .mul ne4_10 (.vf 424)))]
set_option maxRecDepth 1000000 in
set_option maxHeartbeats 100000000 in
theorem nG4 : tabGood 100 nN4 = true := by kernel_rfl
end Go.Proofs.Ytkncchofgehnpaa
