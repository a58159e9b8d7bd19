/-
  'NordAll': what names stand for, where the first rest is 2.
-/
import Derived.Test.YtkncchofgehnpaaM8n
namespace Go.Proofs.Ytkncchofgehnpaa
open Go.RowKit Ex
def ne2_0 : E := (.ib .quo .i64 (.vi 1) (.li 3))
def ne2_1 : E := (.ai 9 0 (.ci (.ib .add .i64 ne2_0 (.li 0)) (.ci (.li 3) .n0)))
def ne2_2 : E := (.ib .sub .i64 (.li 2) ne2_1)
def ne2_3 : E := (.ic .eql ne2_2 (.li 0))
def ne2_4 : E := (.fb .quo (.i2f (.ib .sub .i64 (.ai 9 0 (.ci (.ti (.ic .lss (.li 0) (.vl 5)) (.at 5 0) (.li 0)) (.ci (.li 65) .n0))) (.li 32))) (.lf 4620693217682128896))
def ne2_5 : E := (.ic .eql ne2_2 (.li 1))
def ne2_6 : E := (.fb .quo (.i2f (.ib .sub .i64 (.ai 9 0 (.ci (.ti (.ic .lss (.li 1) (.vl 5)) (.at 5 1) (.li 1)) (.ci (.li 65) .n0))) (.li 32))) (.lf 4620693217682128896))
def ne2_7 : E := (.fb .quo (.i2f (.ib .sub .i64 (.ai 9 0 (.ci (.vi 1) (.ci (.li 17) .n0))) (.li 8))) (.lf 4616189618054758400))
def ne2_8 : E := (.ai 9 0 (.ci (.ib .add .i64 ne2_0 (.li 1)) (.ci (.li 3) .n0)))
def ne2_9 : E := (.ib .sub .i64 (.li 2) ne2_8)
def ne2_10 : E := (.fb .quo (.i2f (.ib .shl .i64 (.li 1) (.iw .u64 (.ai 9 0 (.ci (.vi 6) (.ci (.li 33) .n0)))))) (.lf 4742290407621132288))
def ne2_11 : E := (.ib .sub .i64 (.ib .sub .i64 (.li 3) ne2_1) (.li 1))
def ne2_12 : E := (.ic .eql ne2_11 (.li 0))
def ne2_13 : E := (.ic .eql ne2_11 (.li 1))
def ne2_14 : E := (.fb .quo (.i2f (.ib .sub .i64 (.ai 9 0 (.ci (.ti (.ic .lss (.li 2) (.vl 5)) (.at 5 2) (.li 2)) (.ci (.li 65) .n0))) (.li 32))) (.lf 4620693217682128896))
def ne2_15 : E := (.ib .sub .i64 (.ib .sub .i64 (.li 3) ne2_8) (.li 1))
def ne2_16 : E := (.ic .eql ne2_15 (.li 0))
def ne2_17 : E := (.ic .eql ne2_15 (.li 1))
def ne2_18 : E := (.ai 9 0 (.ci (.ib .add .i64 ne2_0 (.li 2)) (.ci (.li 3) .n0)))
def ne2_19 : E := (.ib .sub .i64 (.ib .sub .i64 (.li 3) ne2_18) (.li 1))
def ne2_20 : E := (.ic .eql (.ai 9 0 (.ci (.at 2 0) (.ci (.li 11) .n0))) (.li 0))
def ne2_21 : E := (.ib .quo .i64 (.at 2 0) (.li 4))
def ne2_22 : E := (.tf (.ic .eql (.ti ne2_20 (.li 0) (.ai 9 0 (.ci ne2_21 (.ci (.li 2) .n0)))) (.li 0)) ne2_4 ne2_7)
def ne2_23 : E := (.ib .quo .i64 (.at 2 0) (.li 40))
def ne2_24 : E := (.tf (.ic .eql (.ti ne2_20 (.li 0) (.ai 9 0 (.ci ne2_23 (.ci (.li 2) .n0)))) (.li 0)) ne2_4 ne2_7)
def ne2_25 : E := (.ib .add .i64 (.li 2) (.ai 9 0 (.ci (.at 2 0) (.ci (.li 3) .n0))))
def ne2_26 : E := (.ic .eql ne2_25 (.li 3))
def ne2_27 : E := (.ic .eql ne2_25 (.li 2))
def ne2_28 : E := (.ic .eql (.ai 9 0 (.ci (.at 2 0) (.ci (.li 7) .n0))) (.li 0))
def ne2_29 : E := (.tf ne2_20 (.fb .quo (.i2f (.ib .sub .i64 (.ai 9 0 (.ci (.ib .quo .i64 (.at 2 0) (.li 11)) (.ci (.li 33) .n0))) (.li 16))) (.lf 4620693217682128896)) (.lf 0))
def ne2_30 : E := (.ti ne2_20 (.li 0) (.ai 9 0 (.ci ne2_21 (.ci (.li 3) .n0))))
def ne2_31 : E := (.ti ne2_20 (.li 0) (.ai 9 0 (.ci ne2_23 (.ci (.li 3) .n0))))
def ne2_32 : E := (.ti ne2_20 (.li 0) (.ai 9 0 (.ci ne2_21 (.ci (.li 4) .n0))))
def ne2_33 : E := (.ti ne2_20 (.li 0) (.ai 9 0 (.ci ne2_23 (.ci (.li 4) .n0))))
def ne2_34 : E := (.ib .sub .i64 (.ib .sub .i64 (.li 4) ne2_1) (.li 2))
def ne2_35 : E := (.ic .eql ne2_34 (.li 0))
def ne2_36 : E := (.ic .eql ne2_34 (.li 1))
def ne2_37 : E := (.ib .sub .i64 (.ib .sub .i64 (.li 4) ne2_8) (.li 2))
def ne2_38 : E := (.ic .eql ne2_37 (.li 0))
def ne2_39 : E := (.ic .eql ne2_37 (.li 1))
def ne2_40 : E := (.ib .sub .i64 (.ib .sub .i64 (.li 4) ne2_18) (.li 2))
def ne2_41 : E := (.ic .eql (.ai 9 0 (.ci (.at 2 1) (.ci (.li 11) .n0))) (.li 0))
def ne2_42 : E := (.ib .quo .i64 (.at 2 1) (.li 4))
def ne2_43 : E := (.ti ne2_41 (.li 0) (.ai 9 0 (.ci ne2_42 (.ci (.li 3) .n0))))
def ne2_44 : E := (.ib .quo .i64 (.at 2 1) (.li 40))
def ne2_45 : E := (.ti ne2_41 (.li 0) (.ai 9 0 (.ci ne2_44 (.ci (.li 3) .n0))))
def ne2_46 : E := (.ib .add .i64 (.li 2) (.ai 9 0 (.ci (.at 2 1) (.ci (.li 3) .n0))))
def ne2_47 : E := (.ic .eql ne2_46 (.li 3))
def ne2_48 : E := (.ic .eql ne2_46 (.li 2))
def ne2_49 : E := (.ic .eql (.ai 9 0 (.ci (.at 2 1) (.ci (.li 7) .n0))) (.li 0))
def ne2_50 : E := (.tf ne2_41 (.fb .quo (.i2f (.ib .sub .i64 (.ai 9 0 (.ci (.ib .quo .i64 (.at 2 1) (.li 11)) (.ci (.li 33) .n0))) (.li 16))) (.lf 4620693217682128896)) (.lf 0))
def ne2_51 : E := (.ti ne2_41 (.li 0) (.ai 9 0 (.ci ne2_42 (.ci (.li 4) .n0))))
def ne2_52 : E := (.ti ne2_41 (.li 0) (.ai 9 0 (.ci ne2_44 (.ci (.li 4) .n0))))
def ne2_53 : E := (.ti ne2_41 (.li 0) (.ai 9 0 (.ci ne2_42 (.ci (.li 5) .n0))))
def ne2_54 : E := (.ti ne2_41 (.li 0) (.ai 9 0 (.ci ne2_44 (.ci (.li 5) .n0))))
def ne2_55 : E := (.ib .sub .i64 (.ib .sub .i64 (.li 5) ne2_1) (.li 3))
def ne2_56 : E := (.ic .eql ne2_55 (.li 0))
def ne2_57 : E := (.ic .eql ne2_55 (.li 1))
def ne2_58 : E := (.ib .sub .i64 (.ib .sub .i64 (.li 5) ne2_8) (.li 3))
def ne2_59 : E := (.ic .eql ne2_58 (.li 0))
def ne2_60 : E := (.ic .eql ne2_58 (.li 1))
def ne2_61 : E := (.ib .sub .i64 (.ib .sub .i64 (.li 5) ne2_18) (.li 3))
def ne2_62 : E := (.ic .eql (.ai 9 0 (.ci (.at 2 2) (.ci (.li 11) .n0))) (.li 0))
def ne2_63 : E := (.ib .quo .i64 (.at 2 2) (.li 4))
def ne2_64 : E := (.ti ne2_62 (.li 0) (.ai 9 0 (.ci ne2_63 (.ci (.li 4) .n0))))
def ne2_65 : E := (.ib .quo .i64 (.at 2 2) (.li 40))
def ne2_66 : E := (.ti ne2_62 (.li 0) (.ai 9 0 (.ci ne2_65 (.ci (.li 4) .n0))))
def ne2_67 : E := (.ib .add .i64 (.li 2) (.ai 9 0 (.ci (.at 2 2) (.ci (.li 3) .n0))))
def ne2_68 : E := (.ic .eql ne2_67 (.li 3))
def ne2_69 : E := (.ic .eql ne2_67 (.li 2))
def ne2_70 : E := (.ic .eql (.ai 9 0 (.ci (.at 2 2) (.ci (.li 7) .n0))) (.li 0))
def ne2_71 : E := (.tf ne2_62 (.fb .quo (.i2f (.ib .sub .i64 (.ai 9 0 (.ci (.ib .quo .i64 (.at 2 2) (.li 11)) (.ci (.li 33) .n0))) (.li 16))) (.lf 4620693217682128896)) (.lf 0))
def ne2_72 : E := (.ti ne2_62 (.li 0) (.ai 9 0 (.ci ne2_63 (.ci (.li 5) .n0))))
def ne2_73 : E := (.ti ne2_62 (.li 0) (.ai 9 0 (.ci ne2_65 (.ci (.li 5) .n0))))
def ne2_74 : E := (.ti ne2_62 (.li 0) (.ai 9 0 (.ci ne2_63 (.ci (.li 6) .n0))))
def ne2_75 : E := (.ti ne2_62 (.li 0) (.ai 9 0 (.ci ne2_65 (.ci (.li 6) .n0))))
def ne2_76 : E := (.ib .sub .i64 (.ib .sub .i64 (.li 6) ne2_1) (.li 4))
def ne2_77 : E := (.ic .eql ne2_76 (.li 0))
def ne2_78 : E := (.ic .eql ne2_76 (.li 1))
def ne2_79 : E := (.ib .sub .i64 (.ib .sub .i64 (.li 6) ne2_8) (.li 4))
def ne2_80 : E := (.ic .eql ne2_79 (.li 0))
def ne2_81 : E := (.ic .eql ne2_79 (.li 1))
def ne2_82 : E := (.ib .sub .i64 (.ib .sub .i64 (.li 6) ne2_18) (.li 4))
def ne2_83 : E := (.fb .quo (.i2f (.ib .sub .i64 (.ai 9 0 (.ci (.at 2 2) (.ci (.li 201) .n0))) (.li 100))) (.lf 4619567317775286272))
def ne2_84 : E := (.fb .quo (.i2f (.ib .sub .i64 (.ai 9 0 (.ci (.at 2 3) (.ci (.li 201) .n0))) (.li 100))) (.lf 4619567317775286272))
def ne2_85 : E := (.fb .add ne2_83 ne2_84)
def ne2_86 : E := (.ic .eql (.ai 9 0 (.ci (.at 2 3) (.ci (.li 11) .n0))) (.li 0))
def ne2_87 : E := (.ib .quo .i64 (.at 2 3) (.li 4))
def ne2_88 : E := (.ti ne2_86 (.li 0) (.ai 9 0 (.ci ne2_87 (.ci (.li 5) .n0))))
def ne2_89 : E := (.ib .quo .i64 (.at 2 3) (.li 40))
def ne2_90 : E := (.ti ne2_86 (.li 0) (.ai 9 0 (.ci ne2_89 (.ci (.li 5) .n0))))
def ne2_91 : E := (.ib .add .i64 (.li 2) (.ai 9 0 (.ci (.at 2 3) (.ci (.li 3) .n0))))
def ne2_92 : E := (.ic .eql ne2_91 (.li 3))
def ne2_93 : E := (.ic .eql ne2_91 (.li 2))
def ne2_94 : E := (.ic .eql (.ai 9 0 (.ci (.at 2 3) (.ci (.li 7) .n0))) (.li 0))
def ne2_95 : E := (.tf ne2_86 (.fb .quo (.i2f (.ib .sub .i64 (.ai 9 0 (.ci (.ib .quo .i64 (.at 2 3) (.li 11)) (.ci (.li 33) .n0))) (.li 16))) (.lf 4620693217682128896)) (.lf 0))
def ne2_96 : E := (.ti ne2_86 (.li 0) (.ai 9 0 (.ci ne2_87 (.ci (.li 6) .n0))))
def ne2_97 : E := (.ti ne2_86 (.li 0) (.ai 9 0 (.ci ne2_89 (.ci (.li 6) .n0))))
def ne2_98 : E := (.ti ne2_86 (.li 0) (.ai 9 0 (.ci ne2_87 (.ci (.li 7) .n0))))
def ne2_99 : E := (.ti ne2_86 (.li 0) (.ai 9 0 (.ci ne2_89 (.ci (.li 7) .n0))))
def ne2_100 : E := (.ib .sub .i64 (.ib .sub .i64 (.li 7) ne2_1) (.li 5))
def ne2_101 : E := (.ic .eql ne2_100 (.li 0))
def ne2_102 : E := (.ic .eql ne2_100 (.li 1))
def ne2_103 : E := (.ib .sub .i64 (.ib .sub .i64 (.li 7) ne2_8) (.li 5))
def ne2_104 : E := (.ic .eql ne2_103 (.li 0))
def ne2_105 : E := (.ic .eql ne2_103 (.li 1))
def ne2_106 : E := (.ib .sub .i64 (.ib .sub .i64 (.li 7) ne2_18) (.li 5))
def ne2_107 : E := (.ic .eql (.ai 9 0 (.ci (.at 2 4) (.ci (.li 11) .n0))) (.li 0))
def ne2_108 : E := (.ib .quo .i64 (.at 2 4) (.li 4))
def ne2_109 : E := (.ti ne2_107 (.li 0) (.ai 9 0 (.ci ne2_108 (.ci (.li 6) .n0))))
def ne2_110 : E := (.ib .quo .i64 (.at 2 4) (.li 40))
def ne2_111 : E := (.ti ne2_107 (.li 0) (.ai 9 0 (.ci ne2_110 (.ci (.li 6) .n0))))
def ne2_112 : E := (.ib .add .i64 (.li 2) (.ai 9 0 (.ci (.at 2 4) (.ci (.li 3) .n0))))
def ne2_113 : E := (.ic .eql ne2_112 (.li 3))
def ne2_114 : E := (.ic .eql ne2_112 (.li 2))
def ne2_115 : E := (.ic .eql (.ai 9 0 (.ci (.at 2 4) (.ci (.li 7) .n0))) (.li 0))
def ne2_116 : E := (.tf ne2_107 (.fb .quo (.i2f (.ib .sub .i64 (.ai 9 0 (.ci (.ib .quo .i64 (.at 2 4) (.li 11)) (.ci (.li 33) .n0))) (.li 16))) (.lf 4620693217682128896)) (.lf 0))
def ne2_117 : E := (.ti ne2_107 (.li 0) (.ai 9 0 (.ci ne2_108 (.ci (.li 7) .n0))))
def ne2_118 : E := (.ti ne2_107 (.li 0) (.ai 9 0 (.ci ne2_110 (.ci (.li 7) .n0))))
def ne2_119 : E := (.ti ne2_107 (.li 0) (.ai 9 0 (.ci ne2_108 (.ci (.li 8) .n0))))
def ne2_120 : E := (.ti ne2_107 (.li 0) (.ai 9 0 (.ci ne2_110 (.ci (.li 8) .n0))))
def ne2_121 : E := (.ib .sub .i64 (.ib .sub .i64 (.li 8) ne2_1) (.li 6))
def ne2_122 : E := (.ic .eql ne2_121 (.li 0))
def ne2_123 : E := (.ic .eql ne2_121 (.li 1))
def ne2_124 : E := (.ib .sub .i64 (.ib .sub .i64 (.li 8) ne2_8) (.li 6))
def ne2_125 : E := (.ic .eql ne2_124 (.li 0))
def ne2_126 : E := (.ic .eql ne2_124 (.li 1))
def ne2_127 : E := (.ib .sub .i64 (.ib .sub .i64 (.li 8) ne2_18) (.li 6))
def ne2_128 : E := (.ic .eql (.ai 9 0 (.ci (.at 2 5) (.ci (.li 11) .n0))) (.li 0))
def ne2_129 : E := (.ib .quo .i64 (.at 2 5) (.li 4))
def ne2_130 : E := (.ti ne2_128 (.li 0) (.ai 9 0 (.ci ne2_129 (.ci (.li 7) .n0))))
def ne2_131 : E := (.ib .quo .i64 (.at 2 5) (.li 40))
def ne2_132 : E := (.ti ne2_128 (.li 0) (.ai 9 0 (.ci ne2_131 (.ci (.li 7) .n0))))
def ne2_133 : E := (.ib .add .i64 (.li 2) (.ai 9 0 (.ci (.at 2 5) (.ci (.li 3) .n0))))
def ne2_134 : E := (.ic .eql ne2_133 (.li 3))
def ne2_135 : E := (.ic .eql ne2_133 (.li 2))
def ne2_136 : E := (.ic .eql (.ai 9 0 (.ci (.at 2 5) (.ci (.li 7) .n0))) (.li 0))
def ne2_137 : E := (.tf ne2_128 (.fb .quo (.i2f (.ib .sub .i64 (.ai 9 0 (.ci (.ib .quo .i64 (.at 2 5) (.li 11)) (.ci (.li 33) .n0))) (.li 16))) (.lf 4620693217682128896)) (.lf 0))
def ne2_138 : E := (.ti ne2_128 (.li 0) (.ai 9 0 (.ci ne2_129 (.ci (.li 8) .n0))))
def ne2_139 : E := (.ti ne2_128 (.li 0) (.ai 9 0 (.ci ne2_131 (.ci (.li 8) .n0))))
def ne2_140 : E := (.ti ne2_128 (.li 0) (.ai 9 0 (.ci ne2_129 (.ci (.li 9) .n0))))
def ne2_141 : E := (.ti ne2_128 (.li 0) (.ai 9 0 (.ci ne2_131 (.ci (.li 9) .n0))))
def ne2_142 : E := (.ib .sub .i64 (.ib .sub .i64 (.li 9) ne2_1) (.li 7))
def ne2_143 : E := (.ic .eql ne2_142 (.li 0))
def ne2_144 : E := (.ic .eql ne2_142 (.li 1))
def ne2_145 : E := (.ib .sub .i64 (.ib .sub .i64 (.li 9) ne2_8) (.li 7))
def ne2_146 : E := (.ic .eql ne2_145 (.li 0))
def ne2_147 : E := (.ic .eql ne2_145 (.li 1))
def ne2_148 : E := (.ib .sub .i64 (.ib .sub .i64 (.li 9) ne2_18) (.li 7))
def ne2_149 : E := (.ic .eql (.ai 9 0 (.ci (.at 2 6) (.ci (.li 11) .n0))) (.li 0))
def ne2_150 : E := (.ib .quo .i64 (.at 2 6) (.li 4))
def ne2_151 : E := (.ti ne2_149 (.li 0) (.ai 9 0 (.ci ne2_150 (.ci (.li 8) .n0))))
def ne2_152 : E := (.ib .quo .i64 (.at 2 6) (.li 40))
def ne2_153 : E := (.ti ne2_149 (.li 0) (.ai 9 0 (.ci ne2_152 (.ci (.li 8) .n0))))
def ne2_154 : E := (.ib .add .i64 (.li 2) (.ai 9 0 (.ci (.at 2 6) (.ci (.li 3) .n0))))
def ne2_155 : E := (.ic .eql ne2_154 (.li 3))
def ne2_156 : E := (.ic .eql ne2_154 (.li 2))
def ne2_157 : E := (.ic .eql (.ai 9 0 (.ci (.at 2 6) (.ci (.li 7) .n0))) (.li 0))
def ne2_158 : E := (.tf ne2_149 (.fb .quo (.i2f (.ib .sub .i64 (.ai 9 0 (.ci (.ib .quo .i64 (.at 2 6) (.li 11)) (.ci (.li 33) .n0))) (.li 16))) (.lf 4620693217682128896)) (.lf 0))
def ne2_159 : E := (.fb .quo (.i2f (.ib .sub .i64 (.ai 9 0 (.ci (.at 2 4) (.ci (.li 201) .n0))) (.li 100))) (.lf 4619567317775286272))
def ne2_160 : E := (.fb .quo (.i2f (.ib .sub .i64 (.ai 9 0 (.ci (.at 2 6) (.ci (.li 201) .n0))) (.li 100))) (.lf 4619567317775286272))
def ne2_161 : E := (.fb .add ne2_159 ne2_160)
def ne2_162 : E := (.ti ne2_149 (.li 0) (.ai 9 0 (.ci ne2_150 (.ci (.li 9) .n0))))
def ne2_163 : E := (.ti ne2_149 (.li 0) (.ai 9 0 (.ci ne2_152 (.ci (.li 9) .n0))))
def ne2_164 : E := (.ti ne2_149 (.li 0) (.ai 9 0 (.ci ne2_150 (.ci (.li 10) .n0))))
def ne2_165 : E := (.ti ne2_149 (.li 0) (.ai 9 0 (.ci ne2_152 (.ci (.li 10) .n0))))
def ne2_166 : E := (.ib .sub .i64 (.ib .sub .i64 (.li 10) ne2_1) (.li 8))
def ne2_167 : E := (.ic .eql ne2_166 (.li 0))
def ne2_168 : E := (.ic .eql ne2_166 (.li 1))
def ne2_169 : E := (.ib .sub .i64 (.ib .sub .i64 (.li 10) ne2_8) (.li 8))
def ne2_170 : E := (.ic .eql ne2_169 (.li 0))
def ne2_171 : E := (.ic .eql ne2_169 (.li 1))
def ne2_172 : E := (.ib .sub .i64 (.ib .sub .i64 (.li 10) ne2_18) (.li 8))
def ne2_173 : E := (.ic .eql (.ai 9 0 (.ci (.at 2 7) (.ci (.li 11) .n0))) (.li 0))
def ne2_174 : E := (.ib .quo .i64 (.at 2 7) (.li 4))
def ne2_175 : E := (.ti ne2_173 (.li 0) (.ai 9 0 (.ci ne2_174 (.ci (.li 9) .n0))))
def ne2_176 : E := (.ib .quo .i64 (.at 2 7) (.li 40))
def ne2_177 : E := (.ti ne2_173 (.li 0) (.ai 9 0 (.ci ne2_176 (.ci (.li 9) .n0))))
def ne2_178 : E := (.ib .add .i64 (.li 2) (.ai 9 0 (.ci (.at 2 7) (.ci (.li 3) .n0))))
def ne2_179 : E := (.ic .eql ne2_178 (.li 3))
def ne2_180 : E := (.ic .eql ne2_178 (.li 2))
def ne2_181 : E := (.ic .eql (.ai 9 0 (.ci (.at 2 7) (.ci (.li 7) .n0))) (.li 0))
def ne2_182 : E := (.tf ne2_173 (.fb .quo (.i2f (.ib .sub .i64 (.ai 9 0 (.ci (.ib .quo .i64 (.at 2 7) (.li 11)) (.ci (.li 33) .n0))) (.li 16))) (.lf 4620693217682128896)) (.lf 0))
def ne2_183 : E := (.fb .quo (.i2f (.ib .sub .i64 (.ai 9 0 (.ci (.at 2 5) (.ci (.li 201) .n0))) (.li 100))) (.lf 4619567317775286272))
def ne2_184 : E := (.fb .quo (.i2f (.ib .sub .i64 (.ai 9 0 (.ci (.at 2 7) (.ci (.li 201) .n0))) (.li 100))) (.lf 4619567317775286272))
def ne2_185 : E := (.fb .add ne2_183 ne2_184)
def ne2_186 : E := (.ti ne2_173 (.li 0) (.ai 9 0 (.ci ne2_174 (.ci (.li 10) .n0))))
def ne2_187 : E := (.ti ne2_173 (.li 0) (.ai 9 0 (.ci ne2_176 (.ci (.li 10) .n0))))
def ne2_188 : E := (.fb .quo (.i2f (.ib .sub .i64 (.ai 9 0 (.ci (.ti (.ic .lss (.li 9) (.vl 2)) (.at 2 9) (.li 3)) (.ci (.li 201) .n0))) (.li 100))) (.lf 4619567317775286272))
def ne2_189 : E := (.fb .add ne2_160 ne2_188)
def ne2_190 : E := (.fb .add ne2_189 ne2_188)
def ne2_191 : E := (.fb .quo (.i2f (.ib .sub .i64 (.ai 9 0 (.ci (.ti (.ic .lss (.li 10) (.vl 2)) (.at 2 10) (.li 4)) (.ci (.li 201) .n0))) (.li 100))) (.lf 4619567317775286272))
def ne2_192 : E := (.fb .add ne2_184 ne2_191)
def ne2_193 : E := (.fb .add ne2_192 ne2_191)
def ne2_194 : E := (.fb .quo (.i2f (.ib .sub .i64 (.ai 9 0 (.ci (.ti (.ic .lss (.li 8) (.vl 2)) (.at 2 8) (.li 4)) (.ci (.li 201) .n0))) (.li 100))) (.lf 4619567317775286272))
def ne2_195 : E := (.fb .quo (.i2f (.ib .sub .i64 (.ai 9 0 (.ci (.ti (.ic .lss (.li 11) (.vl 2)) (.at 2 11) (.li 5)) (.ci (.li 201) .n0))) (.li 100))) (.lf 4619567317775286272))
def ne2_196 : E := (.fb .add ne2_194 ne2_195)
def ne2_197 : E := (.fb .add ne2_196 ne2_195)
def ne2_198 : E := (.ti ne2_173 (.li 0) (.ai 9 0 (.ci ne2_174 (.ci (.li 11) .n0))))
def ne2_199 : E := (.ti ne2_173 (.li 0) (.ai 9 0 (.ci ne2_176 (.ci (.li 11) .n0))))
def ne2_200 : E := (.ib .sub .i64 (.ib .sub .i64 (.li 11) ne2_1) (.li 9))
def ne2_201 : E := (.ib .sub .i64 (.ib .sub .i64 (.li 11) ne2_8) (.li 9))
def ne2_202 : E := (.ib .sub .i64 (.ib .sub .i64 (.li 11) ne2_18) (.li 9))
def nN2 : Nms := [(362731446, 100, (.tf ne2_3 ne2_4 (.tf ne2_5 ne2_6 ne2_7))),
  (2962095690, 101, (.tf (.ic .eql ne2_9 (.li 0)) ne2_4 (.tf (.ic .eql ne2_9 (.li 1)) ne2_6 ne2_7))),
  (2867591044, 102, (.fb .mul ne2_10 (.vf 100))),
  (2867591045, 103, (.fb .mul ne2_10 (.vf 101))),
  (3040827088, 104, (.tf ne2_12 ne2_6 (.tf ne2_13 ne2_14 ne2_7))),
  (748864546, 105, (.tf ne2_16 ne2_6 (.tf ne2_17 ne2_14 ne2_7))),
  (2751869295, 106, (.tf (.ic .eql ne2_19 (.li 0)) ne2_6 (.tf (.ic .eql ne2_19 (.li 1)) ne2_14 ne2_7))),
  (2867591048, 107, (.fb .mul ne2_10 (.vf 104))),
  (2867591049, 108, (.fb .mul ne2_10 (.vf 105))),
  (2867591050, 109, (.fb .mul ne2_10 (.vf 106))),
  (3346043704, 110, (.fb .add ne2_22 ne2_24)),
  (2624664910, 111, (.fb .sub ne2_22 ne2_24)),
  (1903286116, 112, (.fb .mul ne2_22 ne2_24)),
  (1416972978, 113, (.tf ne2_26 (.vf 111) (.vf 112))),
  (2858730564, 114, (.tf ne2_27 (.vf 110) (.vf 113))),
  (1181907322, 115, (.fb .quo ne2_22 ne2_24)),
  (1911084014, 116, (.tf ne2_28 (.vf 115) (.vf 114))),
  (1493552807, 117, (.tf ne2_20 ne2_29 (.tf (.vb 7) (.vf 116) (.vf 114)))),
  (3808619061, 118, (.tf ne2_3 ne2_4 (.tf ne2_5 ne2_7 (.vf 117)))),
  (2867591062, 119, (.fb .mul ne2_10 (.vf 118))),
  (3650053717, 120, (.tf (.ic .eql ne2_30 (.li 0)) ne2_4 (.tf (.ic .eql ne2_30 (.li 1)) ne2_6 ne2_7))),
  (2737886099, 121, (.tf (.ic .eql ne2_31 (.li 0)) ne2_4 (.tf (.ic .eql ne2_31 (.li 1)) ne2_6 ne2_7))),
  (706907051, 122, (.tf ne2_26 (.fb .sub (.vf 120) (.vf 121)) (.fb .mul (.vf 120) (.vf 121)))),
  (4055025637, 123, (.tf ne2_27 (.fb .add (.vf 120) (.vf 121)) (.vf 122))),
  (4051591715, 124, (.tf ne2_28 (.fb .quo (.vf 120) (.vf 121)) (.vf 123))),
  (1501552840, 125, (.tf ne2_20 ne2_29 (.tf (.vb 7) (.vf 124) (.vf 123)))),
  (1780051675, 126, (.tf ne2_12 ne2_6 (.tf ne2_13 ne2_7 (.vf 125)))),
  (3783056424, 127, (.tf ne2_16 ne2_6 (.tf ne2_17 ne2_7 (.vf 125)))),
  (2867591070, 128, (.fb .mul ne2_10 (.vf 126))),
  (2867591071, 129, (.fb .mul ne2_10 (.vf 127))),
  (4110528131, 130, (.tf (.ic .eql ne2_32 (.li 0)) ne2_4 (.tf (.ic .eql ne2_32 (.li 1)) ne2_6 (.tf (.ic .eql ne2_32 (.li 2)) ne2_14 ne2_7)))),
  (2742276704, 131, (.tf (.ic .eql ne2_33 (.li 0)) ne2_4 (.tf (.ic .eql ne2_33 (.li 1)) ne2_6 (.tf (.ic .eql ne2_33 (.li 2)) ne2_14 ne2_7)))),
  (2103053763, 132, (.tf ne2_26 (.fb .sub (.vf 130) (.vf 131)) (.fb .mul (.vf 130) (.vf 131)))),
  (1146205028, 133, (.tf ne2_27 (.fb .add (.vf 130) (.vf 131)) (.vf 132))),
  (1142771106, 134, (.tf ne2_28 (.fb .quo (.vf 130) (.vf 131)) (.vf 133))),
  (1511552880, 135, (.tf ne2_20 ne2_29 (.tf (.vb 7) (.vf 134) (.vf 133)))),
  (2597057509, 136, (.tf ne2_35 ne2_14 (.tf ne2_36 ne2_7 (.vf 135)))),
  (305094967, 137, (.tf ne2_38 ne2_14 (.tf ne2_39 ne2_7 (.vf 135)))),
  (2308099716, 138, (.tf (.ic .eql ne2_40 (.li 0)) ne2_14 (.tf (.ic .eql ne2_40 (.li 1)) ne2_7 (.vf 135)))),
  (2867591080, 139, (.fb .mul ne2_10 (.vf 136))),
  (2867591081, 140, (.fb .mul ne2_10 (.vf 137))),
  (2867591082, 141, (.fb .mul ne2_10 (.vf 138))),
  (3487480674, 142, (.tf (.ic .eql ne2_43 (.li 0)) ne2_4 (.tf (.ic .eql ne2_43 (.li 1)) ne2_7 (.vf 117)))),
  (2575313056, 143, (.tf (.ic .eql ne2_45 (.li 0)) ne2_4 (.tf (.ic .eql ne2_45 (.li 1)) ne2_7 (.vf 117)))),
  (2710283962, 144, (.tf ne2_47 (.fb .sub (.vf 142) (.vf 143)) (.fb .mul (.vf 142) (.vf 143)))),
  (1741435191, 145, (.tf ne2_48 (.fb .add (.vf 142) (.vf 143)) (.vf 144))),
  (1738001269, 146, (.tf ne2_49 (.fb .quo (.vf 142) (.vf 143)) (.vf 145))),
  (832223757, 147, (.tf ne2_41 ne2_50 (.tf (.vb 7) (.vf 146) (.vf 145)))),
  (2678163647, 148, (.tf ne2_12 ne2_7 (.tf ne2_13 (.vf 117) (.vf 147)))),
  (2867591092, 149, (.fb .mul ne2_10 (.vf 148))),
  (4283897443, 150, (.tf ne2_41 ne2_50 (.tf ne2_20 ne2_29 ne2_7))),
  (1732029022, 151, (.tf (.ic .eql ne2_51 (.li 0)) ne2_4 (.tf (.ic .eql ne2_51 (.li 1)) ne2_6 (.tf (.ic .eql ne2_51 (.li 2)) ne2_7 (.vf 125))))),
  (363777595, 152, (.tf (.ic .eql ne2_52 (.li 0)) ne2_4 (.tf (.ic .eql ne2_52 (.li 1)) ne2_6 (.tf (.ic .eql ne2_52 (.li 2)) ne2_7 (.vf 125))))),
  (530842170, 153, (.tf ne2_47 (.fb .sub (.vf 151) (.vf 152)) (.fb .mul (.vf 151) (.vf 152)))),
  (3847960663, 154, (.tf ne2_48 (.fb .add (.vf 151) (.vf 152)) (.vf 153))),
  (3844526741, 155, (.tf ne2_49 (.fb .quo (.vf 151) (.vf 152)) (.vf 154))),
  (841223793, 156, (.tf ne2_41 ne2_50 (.tf (.vb 7) (.vf 155) (.vf 154)))),
  (3091473759, 157, (.tf ne2_35 ne2_7 (.tf ne2_36 (.vf 125) (.vf 156)))),
  (799511217, 158, (.tf ne2_38 ne2_7 (.tf ne2_39 (.vf 125) (.vf 156)))),
  (2867591101, 159, (.fb .mul ne2_10 (.vf 157))),
  (2867591102, 160, (.fb .mul ne2_10 (.vf 158))),
  (1544879773, 161, (.tf (.ic .eql ne2_53 (.li 0)) ne2_4 (.tf (.ic .eql ne2_53 (.li 1)) ne2_6 (.tf (.ic .eql ne2_53 (.li 2)) ne2_14 (.tf (.ic .eql ne2_53 (.li 3)) ne2_7 (.vf 135)))))),
  (4015511828, 162, (.tf (.ic .eql ne2_54 (.li 0)) ne2_4 (.tf (.ic .eql ne2_54 (.li 1)) ne2_6 (.tf (.ic .eql ne2_54 (.li 2)) ne2_14 (.tf (.ic .eql ne2_54 (.li 3)) ne2_7 (.vf 135)))))),
  (1926988882, 163, (.tf ne2_47 (.fb .sub (.vf 161) (.vf 162)) (.fb .mul (.vf 161) (.vf 162)))),
  (939140054, 164, (.tf ne2_48 (.fb .add (.vf 161) (.vf 162)) (.vf 163))),
  (935706132, 165, (.tf ne2_49 (.fb .quo (.vf 161) (.vf 162)) (.vf 164))),
  (851223833, 166, (.tf ne2_41 ne2_50 (.tf (.vb 7) (.vf 165) (.vf 164)))),
  (3506783878, 167, (.tf ne2_56 ne2_7 (.tf ne2_57 (.vf 135) (.vf 166)))),
  (1214821336, 168, (.tf ne2_59 ne2_7 (.tf ne2_60 (.vf 135) (.vf 166)))),
  (3217826085, 169, (.tf (.ic .eql ne2_61 (.li 0)) ne2_7 (.tf (.ic .eql ne2_61 (.li 1)) (.vf 135) (.vf 166)))),
  (2867591111, 170, (.fb .mul ne2_10 (.vf 167))),
  (2867591112, 171, (.fb .mul ne2_10 (.vf 168))),
  (2867591113, 172, (.fb .mul ne2_10 (.vf 169))),
  (1512417298, 173, (.tf (.ic .eql ne2_64 (.li 0)) ne2_4 (.tf (.ic .eql ne2_64 (.li 1)) ne2_7 (.tf (.ic .eql ne2_64 (.li 2)) (.vf 117) (.vf 147))))),
  (144165871, 174, (.tf (.ic .eql ne2_66 (.li 0)) ne2_4 (.tf (.ic .eql ne2_66 (.li 1)) ne2_7 (.tf (.ic .eql ne2_66 (.li 2)) (.vf 117) (.vf 147))))),
  (2534219081, 175, (.tf ne2_68 (.fb .sub (.vf 173) (.vf 174)) (.fb .mul (.vf 173) (.vf 174)))),
  (1534370217, 176, (.tf ne2_69 (.fb .add (.vf 173) (.vf 174)) (.vf 175))),
  (1530936295, 177, (.tf ne2_70 (.fb .quo (.vf 173) (.vf 174)) (.vf 176))),
  (171894710, 178, (.tf ne2_62 ne2_71 (.tf (.vb 7) (.vf 177) (.vf 176)))),
  (1723620795, 179, (.tf ne2_35 (.vf 117) (.tf ne2_36 (.vf 147) (.vf 178)))),
  (2867591123, 180, (.fb .mul ne2_10 (.vf 179))),
  (1684916366, 181, (.tf ne2_62 ne2_71 (.vf 150))),
  (3412309289, 182, (.tf (.ic .eql ne2_72 (.li 0)) ne2_4 (.tf (.ic .eql ne2_72 (.li 1)) ne2_6 (.tf (.ic .eql ne2_72 (.li 2)) ne2_7 (.tf (.ic .eql ne2_72 (.li 3)) (.vf 125) (.vf 156)))))),
  (1587974053, 183, (.tf (.ic .eql ne2_73 (.li 0)) ne2_4 (.tf (.ic .eql ne2_73 (.li 1)) ne2_6 (.tf (.ic .eql ne2_73 (.li 2)) ne2_7 (.tf (.ic .eql ne2_73 (.li 3)) (.vf 125) (.vf 156)))))),
  (354777289, 184, (.tf ne2_68 (.fb .sub (.vf 182) (.vf 183)) (.fb .mul (.vf 182) (.vf 183)))),
  (3640895689, 185, (.tf ne2_69 (.fb .add (.vf 182) (.vf 183)) (.vf 184))),
  (3637461767, 186, (.tf ne2_70 (.fb .quo (.vf 182) (.vf 183)) (.vf 185))),
  (180894746, 187, (.tf ne2_62 ne2_71 (.tf (.vb 7) (.vf 186) (.vf 185)))),
  (2145930934, 188, (.tf ne2_56 (.vf 125) (.tf ne2_57 (.vf 156) (.vf 187)))),
  (4148935683, 189, (.tf ne2_59 (.vf 125) (.tf ne2_60 (.vf 156) (.vf 187)))),
  (2867591132, 190, (.fb .mul ne2_10 (.vf 188))),
  (2867591133, 191, (.fb .mul ne2_10 (.vf 189))),
  (2587536397, 192, (.tf (.ic .eql ne2_74 (.li 0)) ne2_4 (.tf (.ic .eql ne2_74 (.li 1)) ne2_6 (.tf (.ic .eql ne2_74 (.li 2)) ne2_14 (.tf (.ic .eql ne2_74 (.li 3)) ne2_7 (.tf (.ic .eql ne2_74 (.li 4)) (.vf 135) (.vf 166))))))),
  (307117352, 193, (.tf (.ic .eql ne2_75 (.li 0)) ne2_4 (.tf (.ic .eql ne2_75 (.li 1)) ne2_6 (.tf (.ic .eql ne2_75 (.li 2)) ne2_14 (.tf (.ic .eql ne2_75 (.li 3)) ne2_7 (.tf (.ic .eql ne2_75 (.li 4)) (.vf 135) (.vf 166))))))),
  (1750924001, 194, (.tf ne2_68 (.fb .sub (.vf 192) (.vf 193)) (.fb .mul (.vf 192) (.vf 193)))),
  (732075080, 195, (.tf ne2_69 (.fb .add (.vf 192) (.vf 193)) (.vf 194))),
  (728641158, 196, (.tf ne2_70 (.fb .quo (.vf 192) (.vf 193)) (.vf 195))),
  (190894786, 197, (.tf ne2_62 ne2_71 (.tf (.vb 7) (.vf 196) (.vf 195)))),
  (2571241083, 198, (.tf ne2_77 (.vf 135) (.tf ne2_78 (.vf 166) (.vf 197)))),
  (279278541, 199, (.tf ne2_80 (.vf 135) (.tf ne2_81 (.vf 166) (.vf 197)))),
  (2282283290, 200, (.tf (.ic .eql ne2_82 (.li 0)) (.vf 135) (.tf (.ic .eql ne2_82 (.li 1)) (.vf 166) (.vf 197)))),
  (2867591142, 201, (.fb .mul ne2_10 (.vf 198))),
  (2867591143, 202, (.fb .mul ne2_10 (.vf 199))),
  (2867591144, 203, (.fb .mul ne2_10 (.vf 200))),
  (2984053943, 204, (.fb .add (.fb .add (.fb .quo (.i2f (.ib .sub .i64 (.ai 9 0 (.ci (.at 2 1) (.ci (.li 201) .n0))) (.li 100))) (.lf 4619567317775286272)) ne2_85) (.fb .add ne2_85 ne2_84))),
  (1410467302, 205, (.tf (.ic .eql ne2_88 (.li 0)) ne2_4 (.tf (.ic .eql ne2_88 (.li 1)) ne2_7 (.tf (.ic .eql ne2_88 (.li 2)) (.vf 117) (.tf (.ic .eql ne2_88 (.li 3)) (.vf 147) (.vf 178)))))),
  (3881099357, 206, (.tf (.ic .eql ne2_90 (.li 0)) ne2_4 (.tf (.ic .eql ne2_90 (.li 1)) ne2_7 (.tf (.ic .eql ne2_90 (.li 2)) (.vf 117) (.tf (.ic .eql ne2_90 (.li 3)) (.vf 147) (.vf 178)))))),
  (1638775413, 207, (.tf ne2_92 (.fb .sub (.vf 205) (.vf 206)) (.fb .mul (.vf 205) (.vf 206)))),
  (606926453, 208, (.tf ne2_93 (.fb .add (.vf 205) (.vf 206)) (.vf 207))),
  (603492531, 209, (.tf ne2_94 (.fb .quo (.vf 205) (.vf 206)) (.vf 208))),
  (3807532958, 210, (.tf ne2_86 ne2_95 (.tf (.vb 7) (.vf 209) (.vf 208)))),
  (2189931089, 211, (.tf ne2_56 (.vf 147) (.tf ne2_57 (.vf 178) (.vf 210)))),
  (2867591155, 212, (.fb .mul ne2_10 (.vf 211))),
  (993587226, 213, (.tf ne2_86 ne2_95 (.vf 181))),
  (2671735647, 214, (.tf (.ic .eql ne2_96 (.li 0)) ne2_4 (.tf (.ic .eql ne2_96 (.li 1)) ne2_6 (.tf (.ic .eql ne2_96 (.li 2)) ne2_7 (.tf (.ic .eql ne2_96 (.li 3)) (.vf 125) (.tf (.ic .eql ne2_96 (.li 4)) (.vf 156) (.vf 187))))))),
  (391316602, 215, (.tf (.ic .eql ne2_97 (.li 0)) ne2_4 (.tf (.ic .eql ne2_97 (.li 1)) ne2_6 (.tf (.ic .eql ne2_97 (.li 2)) ne2_7 (.tf (.ic .eql ne2_97 (.li 3)) (.vf 125) (.tf (.ic .eql ne2_97 (.li 4)) (.vf 156) (.vf 187))))))),
  (3754300912, 216, (.tf ne2_92 (.fb .sub (.vf 214) (.vf 215)) (.fb .mul (.vf 214) (.vf 215)))),
  (2713451925, 217, (.tf ne2_93 (.fb .add (.vf 214) (.vf 215)) (.vf 216))),
  (2710018003, 218, (.tf ne2_94 (.fb .quo (.vf 214) (.vf 215)) (.vf 217))),
  (3816532994, 219, (.tf ne2_86 ne2_95 (.tf (.vb 7) (.vf 218) (.vf 217)))),
  (2613241231, 220, (.tf ne2_77 (.vf 156) (.tf ne2_78 (.vf 187) (.vf 219)))),
  (321278689, 221, (.tf ne2_80 (.vf 156) (.tf ne2_81 (.vf 187) (.vf 219)))),
  (2867591164, 222, (.fb .mul ne2_10 (.vf 220))),
  (2867591165, 223, (.fb .mul ne2_10 (.vf 221))),
  (1209339112, 224, (.tf (.ic .eql ne2_98 (.li 0)) ne2_4 (.tf (.ic .eql ne2_98 (.li 1)) ne2_6 (.tf (.ic .eql ne2_98 (.li 2)) ne2_14 (.tf (.ic .eql ne2_98 (.li 3)) ne2_7 (.tf (.ic .eql ne2_98 (.li 4)) (.vf 135) (.tf (.ic .eql ne2_98 (.li 5)) (.vf 166) (.vf 197)))))))),
  (2767803549, 225, (.tf (.ic .eql ne2_99 (.li 0)) ne2_4 (.tf (.ic .eql ne2_99 (.li 1)) ne2_6 (.tf (.ic .eql ne2_99 (.li 2)) ne2_14 (.tf (.ic .eql ne2_99 (.li 3)) ne2_7 (.tf (.ic .eql ne2_99 (.li 4)) (.vf 135) (.tf (.ic .eql ne2_99 (.li 5)) (.vf 166) (.vf 197)))))))),
  (855480333, 226, (.tf ne2_92 (.fb .sub (.vf 224) (.vf 225)) (.fb .mul (.vf 224) (.vf 225)))),
  (4099598607, 227, (.tf ne2_93 (.fb .add (.vf 224) (.vf 225)) (.vf 226))),
  (4096164685, 228, (.tf ne2_94 (.fb .quo (.vf 224) (.vf 225)) (.vf 227))),
  (3826533034, 229, (.tf ne2_86 ne2_95 (.tf (.vb 7) (.vf 228) (.vf 227)))),
  (3038551380, 230, (.tf ne2_101 (.vf 166) (.tf ne2_102 (.vf 197) (.vf 229)))),
  (746588838, 231, (.tf ne2_104 (.vf 166) (.tf ne2_105 (.vf 197) (.vf 229)))),
  (2749593587, 232, (.tf (.ic .eql ne2_106 (.li 0)) (.vf 166) (.tf (.ic .eql ne2_106 (.li 1)) (.vf 197) (.vf 229)))),
  (2867591174, 233, (.fb .mul ne2_10 (.vf 230))),
  (2867591175, 234, (.fb .mul ne2_10 (.vf 231))),
  (2867591176, 235, (.fb .mul ne2_10 (.vf 232))),
  (3182630689, 236, (.tf (.ic .eql ne2_109 (.li 0)) ne2_4 (.tf (.ic .eql ne2_109 (.li 1)) ne2_7 (.tf (.ic .eql ne2_109 (.li 2)) (.vf 117) (.tf (.ic .eql ne2_109 (.li 3)) (.vf 147) (.tf (.ic .eql ne2_109 (.li 4)) (.vf 178) (.vf 210))))))),
  (902211644, 237, (.tf (.ic .eql ne2_111 (.li 0)) ne2_4 (.tf (.ic .eql ne2_111 (.li 1)) ne2_7 (.tf (.ic .eql ne2_111 (.li 2)) (.vf 117) (.tf (.ic .eql ne2_111 (.li 3)) (.vf 147) (.tf (.ic .eql ne2_111 (.li 4)) (.vf 178) (.vf 210))))))),
  (1462710532, 238, (.tf ne2_113 (.fb .sub (.vf 236) (.vf 237)) (.fb .mul (.vf 236) (.vf 237)))),
  (399861479, 239, (.tf ne2_114 (.fb .add (.vf 236) (.vf 237)) (.vf 238))),
  (396427557, 240, (.tf ne2_115 (.fb .quo (.vf 236) (.vf 237)) (.vf 239))),
  (3147203911, 241, (.tf ne2_107 ne2_116 (.tf (.vb 7) (.vf 240) (.vf 239)))),
  (2658241388, 242, (.tf ne2_77 (.vf 178) (.tf ne2_78 (.vf 210) (.vf 241)))),
  (2867591186, 243, (.fb .mul ne2_10 (.vf 242))),
  (302258087, 244, (.tf ne2_107 ne2_116 (.vf 213))),
  (3805275388, 245, (.tf (.ic .eql ne2_117 (.li 0)) ne2_4 (.tf (.ic .eql ne2_117 (.li 1)) ne2_6 (.tf (.ic .eql ne2_117 (.li 2)) ne2_7 (.tf (.ic .eql ne2_117 (.li 3)) (.vf 125) (.tf (.ic .eql ne2_117 (.li 4)) (.vf 156) (.tf (.ic .eql ne2_117 (.li 5)) (.vf 187) (.vf 219)))))))),
  (1068772534, 246, (.tf (.ic .eql ne2_118 (.li 0)) ne2_4 (.tf (.ic .eql ne2_118 (.li 1)) ne2_6 (.tf (.ic .eql ne2_118 (.li 2)) ne2_7 (.tf (.ic .eql ne2_118 (.li 3)) (.vf 125) (.tf (.ic .eql ne2_118 (.li 4)) (.vf 156) (.tf (.ic .eql ne2_118 (.li 5)) (.vf 187) (.vf 219)))))))),
  (3578236031, 247, (.tf ne2_113 (.fb .sub (.vf 245) (.vf 246)) (.fb .mul (.vf 245) (.vf 246)))),
  (2506386951, 248, (.tf ne2_114 (.fb .add (.vf 245) (.vf 246)) (.vf 247))),
  (2502953029, 249, (.tf ne2_115 (.fb .quo (.vf 245) (.vf 246)) (.vf 248))),
  (3156203947, 250, (.tf ne2_107 ne2_116 (.tf (.vb 7) (.vf 249) (.vf 248)))),
  (3081551530, 251, (.tf ne2_101 (.vf 187) (.tf ne2_102 (.vf 219) (.vf 250)))),
  (789588988, 252, (.tf ne2_104 (.vf 187) (.tf ne2_105 (.vf 219) (.vf 250)))),
  (2867591195, 253, (.fb .mul ne2_10 (.vf 251))),
  (2867591196, 254, (.fb .mul ne2_10 (.vf 252))),
  (1705255210, 255, (.tf (.ic .eql ne2_119 (.li 0)) ne2_4 (.tf (.ic .eql ne2_119 (.li 1)) ne2_6 (.tf (.ic .eql ne2_119 (.li 2)) ne2_14 (.tf (.ic .eql ne2_119 (.li 3)) ne2_7 (.tf (.ic .eql ne2_119 (.li 4)) (.vf 135) (.tf (.ic .eql ne2_119 (.li 5)) (.vf 166) (.tf (.ic .eql ne2_119 (.li 6)) (.vf 197) (.vf 229))))))))),
  (2807635838, 256, (.tf (.ic .eql ne2_120 (.li 0)) ne2_4 (.tf (.ic .eql ne2_120 (.li 1)) ne2_6 (.tf (.ic .eql ne2_120 (.li 2)) ne2_14 (.tf (.ic .eql ne2_120 (.li 3)) ne2_7 (.tf (.ic .eql ne2_120 (.li 4)) (.vf 135) (.tf (.ic .eql ne2_120 (.li 5)) (.vf 166) (.tf (.ic .eql ne2_120 (.li 6)) (.vf 197) (.vf 229))))))))),
  (679415452, 257, (.tf ne2_113 (.fb .sub (.vf 255) (.vf 256)) (.fb .mul (.vf 255) (.vf 256)))),
  (3892533633, 258, (.tf ne2_114 (.fb .add (.vf 255) (.vf 256)) (.vf 257))),
  (3889099711, 259, (.tf ne2_115 (.fb .quo (.vf 255) (.vf 256)) (.vf 258))),
  (3166203987, 260, (.tf ne2_107 ne2_116 (.tf (.vb 7) (.vf 259) (.vf 258)))),
  (3506861679, 261, (.tf ne2_122 (.vf 197) (.tf ne2_123 (.vf 229) (.vf 260)))),
  (1214899137, 262, (.tf ne2_125 (.vf 197) (.tf ne2_126 (.vf 229) (.vf 260)))),
  (3217903886, 263, (.tf (.ic .eql ne2_127 (.li 0)) (.vf 197) (.tf (.ic .eql ne2_127 (.li 1)) (.vf 229) (.vf 260)))),
  (2867591205, 264, (.fb .mul ne2_10 (.vf 261))),
  (2867591206, 265, (.fb .mul ne2_10 (.vf 262))),
  (2867591207, 266, (.fb .mul ne2_10 (.vf 263))),
  (2534940169, 267, (.tf (.ic .eql ne2_130 (.li 0)) ne2_4 (.tf (.ic .eql ne2_130 (.li 1)) ne2_7 (.tf (.ic .eql ne2_130 (.li 2)) (.vf 117) (.tf (.ic .eql ne2_130 (.li 3)) (.vf 147) (.tf (.ic .eql ne2_130 (.li 4)) (.vf 178) (.tf (.ic .eql ne2_130 (.li 5)) (.vf 210) (.vf 241)))))))),
  (4093404606, 268, (.tf (.ic .eql ne2_132 (.li 0)) ne2_4 (.tf (.ic .eql ne2_132 (.li 1)) ne2_7 (.tf (.ic .eql ne2_132 (.li 2)) (.vf 117) (.tf (.ic .eql ne2_132 (.li 3)) (.vf 147) (.tf (.ic .eql ne2_132 (.li 4)) (.vf 178) (.tf (.ic .eql ne2_132 (.li 5)) (.vf 210) (.vf 241)))))))),
  (1286645651, 269, (.tf ne2_134 (.fb .sub (.vf 267) (.vf 268)) (.fb .mul (.vf 267) (.vf 268)))),
  (192796505, 270, (.tf ne2_135 (.fb .add (.vf 267) (.vf 268)) (.vf 269))),
  (189362583, 271, (.tf ne2_136 (.fb .quo (.vf 267) (.vf 268)) (.vf 270))),
  (2486874864, 272, (.tf ne2_128 ne2_137 (.tf (.vb 7) (.vf 271) (.vf 270)))),
  (3126551687, 273, (.tf ne2_101 (.vf 210) (.tf ne2_102 (.vf 241) (.vf 272)))),
  (2867591217, 274, (.fb .mul ne2_10 (.vf 273))),
  (3905896238, 275, (.tf ne2_128 ne2_137 (.vf 244))),
  (2518961222, 276, (.tf (.ic .eql ne2_138 (.li 0)) ne2_4 (.tf (.ic .eql ne2_138 (.li 1)) ne2_6 (.tf (.ic .eql ne2_138 (.li 2)) ne2_7 (.tf (.ic .eql ne2_138 (.li 3)) (.vf 125) (.tf (.ic .eql ne2_138 (.li 4)) (.vf 156) (.tf (.ic .eql ne2_138 (.li 5)) (.vf 187) (.tf (.ic .eql ne2_138 (.li 6)) (.vf 219) (.vf 250))))))))),
  (3621341850, 277, (.tf (.ic .eql ne2_139 (.li 0)) ne2_4 (.tf (.ic .eql ne2_139 (.li 1)) ne2_6 (.tf (.ic .eql ne2_139 (.li 2)) ne2_7 (.tf (.ic .eql ne2_139 (.li 3)) (.vf 125) (.tf (.ic .eql ne2_139 (.li 4)) (.vf 156) (.tf (.ic .eql ne2_139 (.li 5)) (.vf 187) (.tf (.ic .eql ne2_139 (.li 6)) (.vf 219) (.vf 250))))))))),
  (3402171150, 278, (.tf ne2_134 (.fb .sub (.vf 276) (.vf 277)) (.fb .mul (.vf 276) (.vf 277)))),
  (2299321977, 279, (.tf ne2_135 (.fb .add (.vf 276) (.vf 277)) (.vf 278))),
  (2295888055, 280, (.tf ne2_136 (.fb .quo (.vf 276) (.vf 277)) (.vf 279))),
  (2495874900, 281, (.tf ne2_128 ne2_137 (.tf (.vb 7) (.vf 280) (.vf 279)))),
  (3549861829, 282, (.tf ne2_122 (.vf 219) (.tf ne2_123 (.vf 250) (.vf 281)))),
  (1257899287, 283, (.tf ne2_125 (.vf 219) (.tf ne2_126 (.vf 250) (.vf 281)))),
  (2867591226, 284, (.fb .mul ne2_10 (.vf 282))),
  (2867591227, 285, (.fb .mul ne2_10 (.vf 283))),
  (4076284692, 286, (.tf (.ic .eql ne2_140 (.li 0)) ne2_4 (.tf (.ic .eql ne2_140 (.li 1)) ne2_6 (.tf (.ic .eql ne2_140 (.li 2)) ne2_14 (.tf (.ic .eql ne2_140 (.li 3)) ne2_7 (.tf (.ic .eql ne2_140 (.li 4)) (.vf 135) (.tf (.ic .eql ne2_140 (.li 5)) (.vf 166) (.tf (.ic .eql ne2_140 (.li 6)) (.vf 197) (.tf (.ic .eql ne2_140 (.li 7)) (.vf 229) (.vf 260)))))))))),
  (427614220, 287, (.tf (.ic .eql ne2_141 (.li 0)) ne2_4 (.tf (.ic .eql ne2_141 (.li 1)) ne2_6 (.tf (.ic .eql ne2_141 (.li 2)) ne2_14 (.tf (.ic .eql ne2_141 (.li 3)) ne2_7 (.tf (.ic .eql ne2_141 (.li 4)) (.vf 135) (.tf (.ic .eql ne2_141 (.li 5)) (.vf 166) (.tf (.ic .eql ne2_141 (.li 6)) (.vf 197) (.tf (.ic .eql ne2_141 (.li 7)) (.vf 229) (.vf 260)))))))))),
  (503350571, 288, (.tf ne2_134 (.fb .sub (.vf 286) (.vf 287)) (.fb .mul (.vf 286) (.vf 287)))),
  (3685468659, 289, (.tf ne2_135 (.fb .add (.vf 286) (.vf 287)) (.vf 288))),
  (3682034737, 290, (.tf ne2_136 (.fb .quo (.vf 286) (.vf 287)) (.vf 289))),
  (2505874940, 291, (.tf ne2_128 ne2_137 (.tf (.vb 7) (.vf 290) (.vf 289)))),
  (3975171978, 292, (.tf ne2_143 (.vf 229) (.tf ne2_144 (.vf 260) (.vf 291)))),
  (1683209436, 293, (.tf ne2_146 (.vf 229) (.tf ne2_147 (.vf 260) (.vf 291)))),
  (3686214185, 294, (.tf (.ic .eql ne2_148 (.li 0)) (.vf 229) (.tf (.ic .eql ne2_148 (.li 1)) (.vf 260) (.vf 291)))),
  (2867591236, 295, (.fb .mul ne2_10 (.vf 292))),
  (2867591237, 296, (.fb .mul ne2_10 (.vf 293))),
  (2867591238, 297, (.fb .mul ne2_10 (.vf 294))),
  (3761363031, 298, (.tf (.ic .eql ne2_151 (.li 0)) ne2_4 (.tf (.ic .eql ne2_151 (.li 1)) ne2_7 (.tf (.ic .eql ne2_151 (.li 2)) (.vf 117) (.tf (.ic .eql ne2_151 (.li 3)) (.vf 147) (.tf (.ic .eql ne2_151 (.li 4)) (.vf 178) (.tf (.ic .eql ne2_151 (.li 5)) (.vf 210) (.tf (.ic .eql ne2_151 (.li 6)) (.vf 241) (.vf 272))))))))),
  (568776368, 299, (.tf (.ic .eql ne2_153 (.li 0)) ne2_4 (.tf (.ic .eql ne2_153 (.li 1)) ne2_7 (.tf (.ic .eql ne2_153 (.li 2)) (.vf 117) (.tf (.ic .eql ne2_153 (.li 3)) (.vf 147) (.tf (.ic .eql ne2_153 (.li 4)) (.vf 178) (.tf (.ic .eql ne2_153 (.li 5)) (.vf 210) (.tf (.ic .eql ne2_153 (.li 6)) (.vf 241) (.vf 272))))))))),
  (1110580770, 300, (.tf ne2_155 (.fb .sub (.vf 298) (.vf 299)) (.fb .mul (.vf 298) (.vf 299)))),
  (4280698822, 301, (.tf ne2_156 (.fb .add (.vf 298) (.vf 299)) (.vf 300))),
  (4277264900, 302, (.tf ne2_157 (.fb .quo (.vf 298) (.vf 299)) (.vf 301))),
  (1826545817, 303, (.tf ne2_149 ne2_158 (.tf (.vb 7) (.vf 302) (.vf 301)))),
  (3593861983, 304, (.tf ne2_122 (.vf 241) (.tf ne2_123 (.vf 272) (.vf 303)))),
  (2867591248, 305, (.fb .mul ne2_10 (.vf 304))),
  (3214567098, 306, (.tf ne2_149 ne2_158 (.vf 275))),
  (2819876129, 307, (.fb .add (.fb .add ne2_83 ne2_161) (.fb .add ne2_161 ne2_160))),
  (3106760438, 308, (.tf (.ic .eql ne2_162 (.li 0)) ne2_4 (.tf (.ic .eql ne2_162 (.li 1)) ne2_6 (.tf (.ic .eql ne2_162 (.li 2)) ne2_7 (.tf (.ic .eql ne2_162 (.li 3)) (.vf 125) (.tf (.ic .eql ne2_162 (.li 4)) (.vf 156) (.tf (.ic .eql ne2_162 (.li 5)) (.vf 187) (.tf (.ic .eql ne2_162 (.li 6)) (.vf 219) (.tf (.ic .eql ne2_162 (.li 7)) (.vf 250) (.vf 281)))))))))),
  (3753057257, 309, (.tf (.ic .eql ne2_163 (.li 0)) ne2_4 (.tf (.ic .eql ne2_163 (.li 1)) ne2_6 (.tf (.ic .eql ne2_163 (.li 2)) ne2_7 (.tf (.ic .eql ne2_163 (.li 3)) (.vf 125) (.tf (.ic .eql ne2_163 (.li 4)) (.vf 156) (.tf (.ic .eql ne2_163 (.li 5)) (.vf 187) (.tf (.ic .eql ne2_163 (.li 6)) (.vf 219) (.tf (.ic .eql ne2_163 (.li 7)) (.vf 250) (.vf 281)))))))))),
  (2506727482, 310, (.tf ne2_155 (.fb .sub (.vf 308) (.vf 309)) (.fb .mul (.vf 308) (.vf 309)))),
  (1371878213, 311, (.tf ne2_156 (.fb .add (.vf 308) (.vf 309)) (.vf 310))),
  (1368444291, 312, (.tf ne2_157 (.fb .quo (.vf 308) (.vf 309)) (.vf 311))),
  (1836545857, 313, (.tf ne2_149 ne2_158 (.tf (.vb 7) (.vf 312) (.vf 311)))),
  (4017172126, 314, (.tf ne2_143 (.vf 250) (.tf ne2_144 (.vf 281) (.vf 313)))),
  (1725209584, 315, (.tf ne2_146 (.vf 250) (.tf ne2_147 (.vf 281) (.vf 313)))),
  (2867591258, 316, (.fb .mul ne2_10 (.vf 314))),
  (2867591259, 317, (.fb .mul ne2_10 (.vf 315))),
  (4026460265, 318, (.tf (.ic .eql ne2_164 (.li 0)) ne2_4 (.tf (.ic .eql ne2_164 (.li 1)) ne2_6 (.tf (.ic .eql ne2_164 (.li 2)) ne2_14 (.tf (.ic .eql ne2_164 (.li 3)) ne2_7 (.tf (.ic .eql ne2_164 (.li 4)) (.vf 135) (.tf (.ic .eql ne2_164 (.li 5)) (.vf 166) (.tf (.ic .eql ne2_164 (.li 6)) (.vf 197) (.tf (.ic .eql ne2_164 (.li 7)) (.vf 229) (.tf (.ic .eql ne2_164 (.li 8)) (.vf 260) (.vf 291))))))))))),
  (4216673275, 319, (.tf (.ic .eql ne2_165 (.li 0)) ne2_4 (.tf (.ic .eql ne2_165 (.li 1)) ne2_6 (.tf (.ic .eql ne2_165 (.li 2)) ne2_14 (.tf (.ic .eql ne2_165 (.li 3)) ne2_7 (.tf (.ic .eql ne2_165 (.li 4)) (.vf 135) (.tf (.ic .eql ne2_165 (.li 5)) (.vf 166) (.tf (.ic .eql ne2_165 (.li 6)) (.vf 197) (.tf (.ic .eql ne2_165 (.li 7)) (.vf 229) (.tf (.ic .eql ne2_165 (.li 8)) (.vf 260) (.vf 291))))))))))),
  (3902874194, 320, (.tf ne2_155 (.fb .sub (.vf 318) (.vf 319)) (.fb .mul (.vf 318) (.vf 319)))),
  (2758024895, 321, (.tf ne2_156 (.fb .add (.vf 318) (.vf 319)) (.vf 320))),
  (2754590973, 322, (.tf ne2_157 (.fb .quo (.vf 318) (.vf 319)) (.vf 321))),
  (1846545897, 323, (.tf ne2_149 ne2_158 (.tf (.vb 7) (.vf 322) (.vf 321)))),
  (147514984, 324, (.tf ne2_167 (.vf 260) (.tf ne2_168 (.vf 291) (.vf 323)))),
  (2150519733, 325, (.tf ne2_170 (.vf 260) (.tf ne2_171 (.vf 291) (.vf 323)))),
  (4153524482, 326, (.tf (.ic .eql ne2_172 (.li 0)) (.vf 260) (.tf (.ic .eql ne2_172 (.li 1)) (.vf 291) (.vf 323)))),
  (2867591268, 327, (.fb .mul ne2_10 (.vf 324))),
  (2867591269, 328, (.fb .mul ne2_10 (.vf 325))),
  (2867591270, 329, (.fb .mul ne2_10 (.vf 326))),
  (2566931984, 330, (.tf (.ic .eql ne2_175 (.li 0)) ne2_4 (.tf (.ic .eql ne2_175 (.li 1)) ne2_7 (.tf (.ic .eql ne2_175 (.li 2)) (.vf 117) (.tf (.ic .eql ne2_175 (.li 3)) (.vf 147) (.tf (.ic .eql ne2_175 (.li 4)) (.vf 178) (.tf (.ic .eql ne2_175 (.li 5)) (.vf 210) (.tf (.ic .eql ne2_175 (.li 6)) (.vf 241) (.tf (.ic .eql ne2_175 (.li 7)) (.vf 272) (.vf 303)))))))))),
  (3213228803, 331, (.tf (.ic .eql ne2_177 (.li 0)) ne2_4 (.tf (.ic .eql ne2_177 (.li 1)) ne2_7 (.tf (.ic .eql ne2_177 (.li 2)) (.vf 117) (.tf (.ic .eql ne2_177 (.li 3)) (.vf 147) (.tf (.ic .eql ne2_177 (.li 4)) (.vf 178) (.tf (.ic .eql ne2_177 (.li 5)) (.vf 210) (.tf (.ic .eql ne2_177 (.li 6)) (.vf 241) (.tf (.ic .eql ne2_177 (.li 7)) (.vf 272) (.vf 303)))))))))),
  (215137102, 332, (.tf ne2_179 (.fb .sub (.vf 330) (.vf 331)) (.fb .mul (.vf 330) (.vf 331)))),
  (3353255058, 333, (.tf ne2_180 (.fb .add (.vf 330) (.vf 331)) (.vf 332))),
  (3349821136, 334, (.tf ne2_181 (.fb .quo (.vf 330) (.vf 331)) (.vf 333))),
  (1167216774, 335, (.tf ne2_173 ne2_182 (.tf (.vb 7) (.vf 334) (.vf 333)))),
  (4061172280, 336, (.tf ne2_143 (.vf 272) (.tf ne2_144 (.vf 303) (.vf 335)))),
  (2867591280, 337, (.fb .mul ne2_10 (.vf 336))),
  (2523237958, 338, (.tf ne2_173 ne2_182 (.vf 306))),
  (2001162677, 339, (.fb .add (.fb .add ne2_84 ne2_185) (.fb .add ne2_185 ne2_184))),
  (1273705746, 340, (.tf (.ic .eql ne2_186 (.li 0)) ne2_4 (.tf (.ic .eql ne2_186 (.li 1)) ne2_6 (.tf (.ic .eql ne2_186 (.li 2)) ne2_7 (.tf (.ic .eql ne2_186 (.li 3)) (.vf 125) (.tf (.ic .eql ne2_186 (.li 4)) (.vf 156) (.tf (.ic .eql ne2_186 (.li 5)) (.vf 187) (.tf (.ic .eql ne2_186 (.li 6)) (.vf 219) (.tf (.ic .eql ne2_186 (.li 7)) (.vf 250) (.tf (.ic .eql ne2_186 (.li 8)) (.vf 281) (.vf 313))))))))))),
  (1463918756, 341, (.tf (.ic .eql ne2_187 (.li 0)) ne2_4 (.tf (.ic .eql ne2_187 (.li 1)) ne2_6 (.tf (.ic .eql ne2_187 (.li 2)) ne2_7 (.tf (.ic .eql ne2_187 (.li 3)) (.vf 125) (.tf (.ic .eql ne2_187 (.li 4)) (.vf 156) (.tf (.ic .eql ne2_187 (.li 5)) (.vf 187) (.tf (.ic .eql ne2_187 (.li 6)) (.vf 219) (.tf (.ic .eql ne2_187 (.li 7)) (.vf 250) (.tf (.ic .eql ne2_187 (.li 8)) (.vf 281) (.vf 313))))))))))),
  (1611283814, 342, (.tf ne2_179 (.fb .sub (.vf 340) (.vf 341)) (.fb .mul (.vf 340) (.vf 341)))),
  (444434449, 343, (.tf ne2_180 (.fb .add (.vf 340) (.vf 341)) (.vf 342))),
  (441000527, 344, (.tf ne2_181 (.fb .quo (.vf 340) (.vf 341)) (.vf 343))),
  (1177216814, 345, (.tf ne2_173 ne2_182 (.tf (.vb 7) (.vf 344) (.vf 343)))),
  (190515135, 346, (.tf ne2_167 (.vf 281) (.tf ne2_168 (.vf 313) (.vf 345)))),
  (2193519884, 347, (.tf ne2_170 (.vf 281) (.tf ne2_171 (.vf 313) (.vf 345)))),
  (2867591290, 348, (.fb .mul ne2_10 (.vf 346))),
  (2867591291, 349, (.fb .mul ne2_10 (.vf 347))),
  (3186856849, 350, (.fb .add (.fb .add ne2_84 ne2_189) ne2_190)),
  (2753394611, 351, (.fb .add (.fb .add ne2_159 ne2_192) ne2_193)),
  (1478314884, 352, (.fb .add (.fb .add ne2_183 ne2_196) ne2_197)),
  (2248308313, 353, (.fb .add ne2_190 ne2_188)),
  (949383779, 354, (.fb .add ne2_193 ne2_191)),
  (4096254255, 355, (.fb .add ne2_197 ne2_195)),
  (3654331752, 356, (.fb .add (.fb .mul (.fb .add (.fb .mul (.fb .add (.fb .mul ne2_195 (.vf 4)) ne2_194) (.vf 4)) ne2_183) (.vf 4)) ne2_83)),
  (1555781930, 357, (.tf (.ic .eql ne2_198 (.li 0)) ne2_4 (.tf (.ic .eql ne2_198 (.li 1)) ne2_6 (.tf (.ic .eql ne2_198 (.li 2)) ne2_14 (.tf (.ic .eql ne2_198 (.li 3)) ne2_7 (.tf (.ic .eql ne2_198 (.li 4)) (.vf 135) (.tf (.ic .eql ne2_198 (.li 5)) (.vf 166) (.tf (.ic .eql ne2_198 (.li 6)) (.vf 197) (.tf (.ic .eql ne2_198 (.li 7)) (.vf 229) (.tf (.ic .eql ne2_198 (.li 8)) (.vf 260) (.tf (.ic .eql ne2_198 (.li 9)) (.vf 291) (.vf 323)))))))))))),
  (1289911131, 358, (.tf (.ic .eql ne2_199 (.li 0)) ne2_4 (.tf (.ic .eql ne2_199 (.li 1)) ne2_6 (.tf (.ic .eql ne2_199 (.li 2)) ne2_14 (.tf (.ic .eql ne2_199 (.li 3)) ne2_7 (.tf (.ic .eql ne2_199 (.li 4)) (.vf 135) (.tf (.ic .eql ne2_199 (.li 5)) (.vf 166) (.tf (.ic .eql ne2_199 (.li 6)) (.vf 197) (.tf (.ic .eql ne2_199 (.li 7)) (.vf 229) (.tf (.ic .eql ne2_199 (.li 8)) (.vf 260) (.tf (.ic .eql ne2_199 (.li 9)) (.vf 291) (.vf 323)))))))))))),
  (2266746308, 359, (.tf ne2_179 (.fb .sub (.vf 357) (.vf 358)) (.fb .mul (.vf 357) (.vf 358)))),
  (1082896892, 360, (.tf ne2_180 (.fb .add (.vf 357) (.vf 358)) (.vf 359))),
  (1079462970, 361, (.tf ne2_181 (.fb .quo (.vf 357) (.vf 358)) (.vf 360))),
  (1194216882, 362, (.tf ne2_173 ne2_182 (.tf (.vb 7) (.vf 361) (.vf 360)))),
  (615825291, 363, (.tf (.ic .eql ne2_200 (.li 0)) (.vf 291) (.tf (.ic .eql ne2_200 (.li 1)) (.vf 323) (.vf 362)))),
  (2618830040, 364, (.tf (.ic .eql ne2_201 (.li 0)) (.vf 291) (.tf (.ic .eql ne2_201 (.li 1)) (.vf 323) (.vf 362)))),
  (326867498, 365, (.tf (.ic .eql ne2_202 (.li 0)) (.vf 291) (.tf (.ic .eql ne2_202 (.li 1)) (.vf 323) (.vf 362)))),
  (2867591307, 366, (.fb .mul ne2_10 (.vf 363))),
  (2867591308, 367, (.fb .mul ne2_10 (.vf 364))),
  (2867591309, 368, (.fb .mul ne2_10 (.vf 365)))]
set_option maxRecDepth 1000000 in
set_option maxHeartbeats 100000000 in
theorem nG2 : tabGood 100 nN2 = true := by kernel_rfl
end Go.Proofs.Ytkncchofgehnpaa
